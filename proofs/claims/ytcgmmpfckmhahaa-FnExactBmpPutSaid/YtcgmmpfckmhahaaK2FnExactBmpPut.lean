/- Texts laid together: RnIterP, RpMem, ReImpl, ReImplTop, BmData, BmImpl, BmSpecTop, ExBmpPut. -/
import Derived.Test.YtcgmmpfckmhahaaKFnExactBmpPut
import Derived.Test.YtcgmmpfckmhahaaK1FnExactBmpPut
import Derived.Sort.CutIn
import Derived.Maps.OwnIn
import Derived.Test.YtcgmmpfckmhahaaCoreBmp
import Derived.Test.YtcgmmpfckmhahaaImgSpec3
/- The iterator over the stretches of a list (ints), where some blocks may turn. -/
namespace Go.Proofs.Ytcgmmpfckmhahaa
open Go.RowKit Go.Shelf

/-- what lies below n₀ is as it was, but for some blocks -/
def BsP (P : Nat → Prop) (n₀ : Nat) (W W' : World) : Prop := W.heap.size ≤ W'.heap.size ∧ ∀ k, k < n₀ → ¬ P k → W'.heap[k]? = W.heap[k]?
theorem BsP.trans {P : Nat → Prop} {n₀ : Nat} {A B C : World} (h : BsP P n₀ A B) (k : BsP P n₀ B C) : BsP P n₀ A C := ⟨Nat.le_trans h.1 k.1, fun i hi ho => (k.2 i hi ho).trans (h.2 i hi ho)⟩
theorem BsP.of {P : Nat → Prop} {n₀ : Nat} {A B : World} (h : Below n₀ A B) : BsP P n₀ A B := ⟨h.size, fun i hi _ => h.block i hi⟩
theorem BsP.book {P : Nat → Prop} {n₀ : Nat} {w : World} (hn : n₀ ≤ w.heap.size) (W : World) (l : Nat) (x x' : Obj) (hl : w.heap.size ≤ l) (h : W.heap[l]? = some x) (h1 : x.isCells = false) (h2 : x.isWalk = false) : BsP P n₀ W (W.putObj l x') := .of (belowK_b hn W l x x' hl h h1 h2)
namespace RI

attribute [local go_sem] Oper.semAt_some

theorem Held.keptP {W W' : World} {a : Option Addr} {Bl Bm Bt b off cap N least m n₀ : Nat} {P : Nat → Prop} {L : List Int} (h : Held W a Bl Bm Bt b off cap N least m L) (hb : BsP P n₀ W W') (h1 : Bl < n₀) (h2 : Bm < n₀) (h3 : Bt < n₀) (h4 : b < n₀) (o1 : ¬ P Bl) (o2 : ¬ P Bm) (o3 : ¬ P Bt) (o4 : ¬ P b) : Held W' a Bl Bm Bt b off cap N least m L :=
  ⟨(World.cell?_of_block (w := W) (a := ⟨Bl, 0, none⟩) (hb.2 _ h1 o1)).trans h.hl, (World.cell?_of_block (w := W) (a := ⟨Bm, 0, none⟩) (hb.2 _ h2 o2)).trans h.hm, (World.cell?_of_block (w := W) (a := ⟨Bt, 0, none⟩) (hb.2 _ h3 o3)).trans h.ht,
   Nat.lt_of_lt_of_le h.lies.1 hb.1, fun i hi => (World.cell?_of_block (w := W) (a := ⟨b, off + i, none⟩) (hb.2 _ h4 o4)).trans (h.lies.2 i hi)⟩

set_option maxRecDepth 100000 in
set_option maxHeartbeats 4000000 in
theorem stretchesP1_in (n : Nat) (hn : 1 ≤ n) (a : Option Addr) (l Bl Bm Bt b off cap N least m n₀ : Nat) (P : Nat → Prop) (L : List Int) (h1 : Bl < n₀) (h2 : Bm < n₀) (h3 : Bt < n₀) (h4 : b < n₀) (o1 : ¬ P Bl) (o2 : ¬ P Bm) (o3 : ¬ P Bt) (o4 : ¬ P b)
    (hN : L.length = N) (hNb : N ≤ 100000) (hlb : least ≤ 1000) (hmb : m ≤ 1000) (hm0 : 0 < m) (hcap : N ≤ cap) (ha : N = 0 ∨ a = some ⟨b, off, none⟩) (J Jx : List (Nat × Nat × Bool) → World → Prop)
    (W : World) (hJ : AbidesFrom W.heap.size J)
    (hY : ∀ pre x W, x.1 + x.2.1 ≤ N ∧ 1 ≤ x.2.1 ∧ x.2.1 ≤ m → J pre W → pre.length < (Rn.from_ least m L 0).length → YieldAt Fence.wide (n - 1) Try.prog l (enc b off cap x) W fun e W' =>
      (e = .returned (.bool true) ∧ J (pre ++ [x]) W' ∧ BsP P n₀ W W') ∨ (e = .returned (.bool false) ∧ Jx (pre ++ [x]) W'))
    (hH : Held W a Bl Bm Bt b off cap N least m L) (h0 : J [] W) :
    CallsIn Fence.wide n Try.prog 112 #[.func (.yield l) #[] #[], .pointer (some ⟨Bl, 0, none⟩), .pointer (some ⟨Bm, 0, none⟩), .pointer (some ⟨Bt, 0, none⟩)] W fun e W' => (∃ v, e = .returned v) ∧
      ((∃ ys, ys = Rn.from_ least m L 0 ∧ J ys W') ∨ (∃ pre, pre <+: Rn.from_ least m L 0 ∧ Jx pre W')) := by
  have hro : Fence.wide.round = none := rfl
  have HN : Hid (L.length = N) := hN
  clear hN
  have HY : Hid (∀ (pre : List (Nat × Nat × Bool)) (x : Nat × Nat × Bool) (W : World), x.1 + x.2.1 ≤ N ∧ 1 ≤ x.2.1 ∧ x.2.1 ≤ m → J pre W → pre.length < (Rn.from_ least m L 0).length → YieldAt Fence.wide (n - 1) Try.prog l (enc b off cap x) W fun e W' =>
      (e = .returned (.bool true) ∧ J (pre ++ [x]) W' ∧ BsP P n₀ W W') ∨ (e = .returned (.bool false) ∧ Jx (pre ++ [x]) W')) := hY
  have HJ : Hid (AbidesFrom W.heap.size J) := hJ
  clear hY hJ
  refine callsIn_of_wp Try.func112 rfl trivial ?_ hro
  simp only [Try.ntmps112, List.size_toArray, List.length_cons, List.length_nil, Nat.reduceAdd, Nat.reduceSub, Array.replicate_succ, Array.replicate_zero, List.push_toArray, List.append_toArray, List.nil_append, List.cons_append]
  gi_wp2
  gi_loopw [5] (fun i wr => ∃ (k : Nat) (pre : List (Nat × Nat × Bool)), k ≤ N ∧ i = .int .i64 (k : Int) ∧ Hid (Rn.from_ least m L 0 = pre ++ Rn.from_ least m L k) ∧ J pre wr ∧ Held wr a Bl Bm Bt b off cap N least m L)
    (fun i _ => N - (intOf i).toNat)
  case atStart => exact ⟨0, [], Nat.zero_le _, rfl, rfl, h0, hH⟩
  case round =>
    obtain ⟨k, pre, hk, rfl, HX, hJk, hHk⟩ := hrel
    obtain ⟨c1, c2, c3, hL⟩ := id hHk
    by_cases hlt : k < N
    · obtain rfl : a = some ⟨b, off, none⟩ := by
        rcases ha with h | h
        · omega
        · exact h
      have hkl : k < L.length := by rw [HN.out]; exact hlt
      have hkc : k < cap := by omega
      have hdl : 0 < (L.drop k).length := by rw [List.length_drop]; omega
      have hdn : (L.drop k).length = N - k := by rw [List.length_drop, HN.out]
      have HS : Hid (Calls Try.prog 113 #[.slice (some ⟨b, off + k, none⟩) (N - k) (cap - k), .int .i64 (m : Int)] wr fun e w' => e = .returned (.int .i64 ((Rn.same (L.drop k) m : Nat) : Int)) ∧ ∃ q, w' = wr.drewN q) :=
        sameAhead_any b (off + k) (cap - k) (N - k) m (L.drop k) wr hdn (by omega) hmb (hL.drop k)
      have HU : Hid (∀ q, Calls Try.prog 114 #[.slice (some ⟨b, off + k, none⟩) (N - k) (cap - k), .int .i64 (least : Int), .int .i64 (m : Int)] (wr.drewN q) fun e w' => e = .returned (.int .i64 ((Rn.fresh (L.drop k) least m : Nat) : Int)) ∧ ∃ q', w' = (wr.drewN q).drewN q') :=
        fun q => upToSame_any b (off + k) (cap - k) (N - k) least m (L.drop k) _ hdn (by omega) hlb hmb ((hL.drop k).drewN q) (by omega)
      have hsz := Rn.size_ends (l := L.drop k) (least := least) (m := m) hdl hm0
      have HF := Rn.from_step (least := least) (m := m) (l := L) hm0 hkl
      have hszd : Rn.size least m (L.drop k) = if least ≤ Rn.same (L.drop k) m then Rn.same (L.drop k) m else Rn.fresh (L.drop k) least m := rfl
      have hagd : Rn.again least m (L.drop k) = decide (least ≤ Rn.same (L.drop k) m) := rfl
      rw [hdn] at hsz
      have hlen : pre.length < (Rn.from_ least m L 0).length := by rw [HX.out, HF]; simp
      generalize hzs : Rn.size least m (L.drop k) = z at *
      generalize hza : Rn.again least m (L.drop k) = ag at *
      generalize Rn.same (L.drop k) m = sm at *
      generalize Rn.fresh (L.drop k) least m = fr at *
      have HX2 : Hid (Rn.from_ least m L 0 = (pre ++ [(k, z, ag)]) ++ Rn.from_ least m L (k + z)) := by
        show _ = _
        rw [HX.out, HF]; simp
      clear HF HX hdl hkl hdn hL hzs hza
      obtain ⟨hz1, hz2, hz3⟩ := hsz
      have hJd : ∀ q, J pre (wr.drewN q) := fun q => HJ.out pre wr _ none hJk (grown_drewN wr q) (fun r e => by cases e)
      have HJd : Hid (∀ q, J pre (wr.drewN q)) := hJd
      clear hJd hJk
      by_cases hag : least ≤ sm
      · rw [if_pos hag] at hszd
        subst hszd
        have hd : decide (least ≤ z) = true := by simp; exact hag
        rw [hd] at hagd
        subst hagd
        have d3 : decide ((z : Int) ≥ (least : Int)) = true := by simp; exact hag
        clear HU
        gi_wp2
        refine ⟨trivial, ?_⟩
        gi_wp2
        refine (callsIn_wide.2 HS.out).mono ?_
        rintro e W2 ⟨rfl, q, rfl⟩
        clear HS
        obtain ⟨fn, tmps, assign, body, hy, hR⟩ := HY.out pre (k, z, true) _ ⟨by show k + z ≤ N; omega, hz1, hz3⟩ (HJd.out q) hlen
        have hHq := hHk.drewN q
        dsimp only [enc] at hy
        gi_wp2
        refine hR.mono ?_
        rintro e W3 (⟨rfl, hJ3, hk3⟩ | ⟨rfl, hJx3⟩)
        · gi_wp2
          go_roundw
          case rel => exact ⟨k + z, _, by omega, by go_num, HX2, hJ3, hHq.keptP hk3 h1 h2 h3 h4 o1 o2 o3 o4⟩
          case measure => simp [intOf]; omega
        · gi_wp2
          refine bodyPost_ret (results_none rfl _ _ _) rfl ?_
          exact ⟨⟨_, rfl⟩, .inr ⟨_, ⟨_, HX2.out.symm⟩, hJx3⟩⟩
      · rw [if_neg hag] at hszd
        subst hszd
        have hd : decide (least ≤ sm) = false := by simp; omega
        rw [hd] at hagd
        subst hagd
        have d3 : decide ((sm : Int) ≥ (least : Int)) = false := by simp; omega
        gi_wp2
        refine ⟨trivial, ?_⟩
        gi_wp2
        refine (callsIn_wide.2 HS.out).mono ?_
        rintro e W2 ⟨rfl, q, rfl⟩
        clear HS
        gi_wp2
        refine ⟨trivial, ?_⟩
        gi_wp2
        refine (callsIn_wide.2 (HU.out q)).mono ?_
        rintro e W2 ⟨rfl, q2, rfl⟩
        clear HU
        obtain ⟨fn, tmps, assign, body, hy, hR⟩ := HY.out pre (k, z, false) _ ⟨by show k + z ≤ N; omega, hz1, hz3⟩ (HJd.out (q + q2)) hlen
        have hHq := hHk.drewN (q + q2)
        dsimp only [enc] at hy
        gi_wp2
        refine hR.mono ?_
        rintro e W3 (⟨rfl, hJ3, hk3⟩ | ⟨rfl, hJx3⟩)
        · gi_wp2
          go_roundw
          case rel => exact ⟨k + z, _, by omega, by go_num, HX2, hJ3, hHq.keptP hk3 h1 h2 h3 h4 o1 o2 o3 o4⟩
          case measure => simp [intOf]; omega
        · gi_wp2
          refine bodyPost_ret (results_none rfl _ _ _) rfl ?_
          exact ⟨⟨_, rfl⟩, .inr ⟨_, ⟨_, HX2.out.symm⟩, hJx3⟩⟩
    · obtain rfl : k = N := by omega
      gi_wp2
      go_end0
      exact ⟨⟨_, rfl⟩, .inl ⟨_, by rw [HX.out, Rn.from_end (by rw [HN.out]; exact Nat.le_refl _), List.append_nil], hJk⟩⟩

theorem stretchesP_stops (n : Nat) (hn : 1 ≤ n) (a : Option Addr) (Bl Bm Bt b off cap N least m n₀ : Nat) (P : Nat → Prop) (L : List Int) (w : World) (h1 : Bl < n₀) (h2 : Bm < n₀) (h3 : Bt < n₀) (h4 : b < n₀) (o1 : ¬ P Bl) (o2 : ¬ P Bm) (o3 : ¬ P Bt) (o4 : ¬ P b) (hn₀ : n₀ ≤ w.heap.size)
    (hN : L.length = N) (hNb : N ≤ 100000) (hlb : least ≤ 1000) (hmb : m ≤ 1000) (hm0 : 0 < m) (hcap : N ≤ cap) (ha : N = 0 ∨ a = some ⟨b, off, none⟩) (hH : Held w a Bl Bm Bt b off cap N least m L) :
    SeqStopsK Fence.wide n Try.prog 112 #[.pointer (some ⟨Bl, 0, none⟩), .pointer (some ⟨Bm, 0, none⟩), .pointer (some ⟨Bt, 0, none⟩)] (fun x : St N m => enc b off cap x.1) (BsP P n₀)
      (fun ys => ys.map Subtype.val = Rn.from_ least m L 0) (fun pre => pre.map Subtype.val <+: Rn.from_ least m L 0) (Rn.from_ least m L 0).length w := by
  intro l J Jx W hW hJ _ hY h0
  refine (stretchesP1_in n hn a l Bl Bm Bt b off cap N least m n₀ P L h1 h2 h3 h4 o1 o2 o3 o4 hN hNb hlb hmb hm0 hcap ha
    (fun pre W => ∃ p : List (St N m), p.map Subtype.val = pre ∧ J p W) (fun pre W => ∃ p : List (St N m), p.map Subtype.val = pre ∧ Jx p W) W
    (fun s A B row hs hg hr => by obtain ⟨p, hp, hj⟩ := hs; exact ⟨p, hp, hJ p A B row hj hg hr⟩) ?_ ?_ ⟨[], rfl, h0⟩).mono ?_
  · rintro pre x W1 hx ⟨p, rfl, hj⟩ hlen
    obtain ⟨fn, tmps, assign, body, hy, hR⟩ := hY p ⟨x, hx⟩ W1 hj (by simpa using hlen)
    refine ⟨fn, tmps, assign, body, hy, hR.mono ?_⟩
    rintro e W' (⟨rfl, h2, h3⟩ | ⟨rfl, h2⟩)
    · exact .inl ⟨rfl, ⟨p ++ [⟨x, hx⟩], by simp, h2⟩, h3⟩
    · exact .inr ⟨rfl, ⟨p ++ [⟨x, hx⟩], by simp, h2⟩⟩
  · exact hH.keptP (BsP.of (P := P) (hW.mono hn₀)) h1 h2 h3 h4 o1 o2 o3 o4
  · rintro e W' ⟨hv, h⟩
    refine ⟨hv, ?_⟩
    rcases h with ⟨ys, hy, p, hp, hj⟩ | ⟨pre, hpre, p, hp, hj⟩
    · exact .inl ⟨p, hp.trans hy, hj⟩
    · exact .inr ⟨p, by show p.map Subtype.val <+: _; rw [hp]; exact hpre, hj⟩

end RI
end Go.Proofs.Ytcgmmpfckmhahaa

/- Marks of loops over iterators, and what a round may do beside a row of the call's own. -/
namespace Go.Proofs.Ytcgmmpfckmhahaa
open Go.RowKit Go.Shelf

/-- the mark that a loop over an iterator leaves -/
def markOf (D : Nat) : Deferred := { target := .collected D, args := #[] }
/-- marks that are still open -/
def Marks (lo hi : Nat) (Ds : List Nat) (W : World) : Prop := Ds.Nodup ∧ ∀ D ∈ Ds, lo ≤ D ∧ D < hi ∧ W.heap[D]? = some (.deferred (some []))
theorem Marks.others {lo hi : Nat} {Ds : List Nat} {W W' : World} (h : Marks lo hi Ds W) (k : KeepsOthers W W') : Marks lo hi Ds W' :=
  ⟨h.1, fun D hD => ⟨(h.2 D hD).1, (h.2 D hD).2.1, k.same D _ (h.2 D hD).2.2 rfl⟩⟩
theorem Marks.up {lo hi hi' : Nat} {Ds : List Nat} {W : World} (h : Marks lo hi Ds W) (k : hi ≤ hi') : Marks lo hi' Ds W :=
  ⟨h.1, fun D hD => ⟨(h.2 D hD).1, Nat.lt_of_lt_of_le (h.2 D hD).2.1 k, (h.2 D hD).2.2⟩⟩
theorem Marks.below {lo hi m : Nat} {Ds : List Nat} {W W' : World} (h : Marks lo hi Ds W) (b : Below m W W') (hm : hi ≤ m) : Marks lo hi Ds W' :=
  ⟨h.1, fun D hD => ⟨(h.2 D hD).1, (h.2 D hD).2.1, (b.block D (by have := (h.2 D hD).2.1; omega)).trans (h.2 D hD).2.2⟩⟩
theorem Marks.cons {lo hi hi' D : Nat} {Ds : List Nat} {W : World} (h : Marks lo hi Ds W) (h1 : hi ≤ D) (h2 : lo ≤ D) (hD : W.heap[D]? = some (.deferred (some []))) (h3 : D < hi') : Marks lo hi' (D :: Ds) W := by
  refine ⟨List.nodup_cons.2 ⟨fun hm => by have := (h.2 D hm).2.1; omega, h.1⟩, fun E hE => ?_⟩
  rcases List.mem_cons.1 hE with rfl | hE
  · exact ⟨h2, h3, hD⟩
  · exact ⟨(h.2 E hE).1, by have := (h.2 E hE).2.1; omega, (h.2 E hE).2.2⟩
/-- the function leaves -/
theorem leaves_marks {F : Fence} {n : Nat} {P : Program} {fn : Func} {tmps : Array Value} {R : Ending → World → Prop} {v : Value} (hv : ∀ W, (results fn tmps).run P W = .ok v W) (lo hi : Nat) :
    ∀ (Ds : List Nat) (W : World), Marks lo hi Ds W → (∀ W', Below lo W W' → R (.returned v) W') → LeavesInM F n P fn tmps R (Ds.map markOf) .returning W
  | [], W, _, hR => ⟨v, hv W, hR W (Below.refl _ _)⟩
  | D :: Ds, W, h, hR => by
    have hD := h.2 D (by simp)
    have hN := List.nodup_cons.1 h.1
    have hb : Below lo W (W.putObj D (.deferred none)) := (Below.refl lo W).grown (grownBy_putObj' W D (.deferred none)) (by have := lt_of_at hD.2.2; omega) (fun k e => by cases e; exact hD.1)
    refine ⟨by simp, .inl ⟨D, _, rfl, run_takeDeferred hD.2.2, ?_⟩⟩
    refine leaves_marks hv lo hi Ds _ ⟨hN.2, fun E hE => ?_⟩ (fun W' hW' => hR W' (hb.trans hW'))
    have hE' := h.2 E (by simp [hE])
    refine ⟨hE'.1, hE'.2.1, ?_⟩
    exact ((grownBy_putObj' W D (.deferred none)).block E (lt_of_at hE'.2.2) (fun e => by cases e; exact hN.1 hE)).trans hE'.2.2

/-- from W to W': new blocks, rows that P names or from n₀ on that are no T, and the box A -/
structure WentP (P : Nat → Prop) (A n₀ : Nat) (T : TypeId) (W W' : World) : Prop where
  ko : KeepsOthers W W'
  bs : BsP P n₀ W W'
  bl : Below A W W'
  bx : ∀ (k : Nat) (cs : Array Value) (fr : Nat × Nat), W.heap[k]? = some (.cells cs T fr) → W'.heap[k]? = some (.cells cs T fr)
theorem WentP.refl (P : Nat → Prop) (A n₀ : Nat) (T : TypeId) (W : World) : WentP P A n₀ T W W := ⟨.refl _, .of (Below.refl _ _), Below.refl _ _, fun _ _ _ h => h⟩
theorem WentP.trans {P : Nat → Prop} {A n₀ : Nat} {T : TypeId} {W X Y : World} (h : WentP P A n₀ T W X) (k : WentP P A n₀ T X Y) : WentP P A n₀ T W Y :=
  ⟨h.ko.trans k.ko, h.bs.trans k.bs, h.bl.trans k.bl, fun i cs fr hi => k.bx i cs fr (h.bx i cs fr hi)⟩
theorem WentP.drew {P : Nat → Prop} {A n₀ : Nat} {T : TypeId} {W X : World} (h : WentP P A n₀ T W X) : WentP P A n₀ T W X.drew :=
  h.trans ⟨KeepsOthers.drew _, .of (Below.refl _ _).drew, (Below.refl _ _).drew, fun _ _ _ h => h⟩
theorem WentP.alloc {P : Nat → Prop} {A n₀ : Nat} {T : TypeId} {W X : World} (h : WentP P A n₀ T W X) (hn : n₀ ≤ X.heap.size) (hA : A ≤ X.heap.size) (o : Obj) : WentP P A n₀ T W (X.alloc o) :=
  h.trans ⟨KeepsOthers.alloc _ _, .of ((Below.refl _ _).alloc hn _), (Below.refl _ _).alloc hA _, fun k _ _ hk => (Below.heap_alloc X o k (Array.getElem?_eq_some_iff.1 hk).1).trans hk⟩
/-- an append to a row of the call's own -/
theorem WentP.append {P : Nat → Prop} {A n₀ lo k : Nat} {T e : TypeId} {W X Y : World} {v : Value} {xs : List Value} (h : WentP P A n₀ T W X) (hrow : X.ownsRow lo e 1 v k xs) (hP : ∀ j, v.ownBlock = some j → P j ∨ n₀ ≤ j) (hT : T ≠ e) (hg : X.grownBy Y v.ownBlock) (hn : n₀ ≤ X.heap.size) (hA : A ≤ lo) (hA2 : A ≤ X.heap.size) : WentP P A n₀ T W Y := by
  have hown : ∀ (j : Nat), v.ownBlock = some j → lo ≤ j ∧ ∃ cur, X.heap[j]? = some (.cells cur e (0, 0)) := fun j hj => by
    rcases hrow.2 with ⟨rfl, _⟩ | ⟨g, cap, cur, rfl, h1, h2, _⟩
    · cases hj
    · simp [Value.ownBlock] at hj; subst hj; exact ⟨h1, cur, h2⟩
  refine h.trans ⟨KeepsOthers.of_grownBy hg (fun j o ej hj => ?_), ⟨hg.size, fun j hj hp => ?_⟩, (Below.refl _ _).grown hg hA2 (fun j hj => Nat.le_trans hA (hown j hj).1), fun j cs fr hj => ?_⟩
  · obtain ⟨_, cur, hc⟩ := hown j ej
    rw [hc] at hj; cases hj; rfl
  · refine hg.block j (by omega) (fun ej => ?_)
    rcases hP j ej.symm with h1 | h1
    · exact hp h1
    · omega
  · refine (hg.block j (Array.getElem?_eq_some_iff.1 hj).1 (fun ej => ?_)).trans hj
    obtain ⟨_, cur, hc⟩ := hown j ej.symm
    rw [hc] at hj; cases hj; exact hT rfl
/-- a store into the box -/
theorem WentP.store {P : Nat → Prop} {A n₀ : Nat} {T t : TypeId} {W X : World} {u : Value} (h : WentP P A n₀ T W X) (hb : Boxed X A t u) (hP : P A) (hT : T ≠ t) (v : Value) : WentP P A n₀ T W (X.setCell ⟨A, 0, none⟩ v) := by
  have hk : ∀ k, k ≠ A → (X.setCell ⟨A, 0, none⟩ v).heap[k]? = X.heap[k]? := fun k hk => Below.heap_setCell X ⟨A, 0, none⟩ v k hk
  refine h.trans ⟨KeepsOthers.setCell _ _ _, ⟨by simp, fun k _ hne => hk k (fun e => hne (e ▸ hP))⟩, (Below.refl A X).setCell (p := ⟨A, 0, none⟩) (Nat.le_refl _) _, fun k cs fr hc => ?_⟩
  by_cases e : k = A
  · subst e
    rw [show X.heap[k]? = _ from hb] at hc; cases hc; exact (hT rfl).elim
  · rw [hk k e]; exact hc

/-- between two rounds of a row: the text so far in a row of the call's own -/
def ReI (w : World) (P : Nat → Prop) (n₀ : Nat) (Ds : List Nat) (q0 : List UInt8) (l : List Int) (N : Nat) (pre : List (RI.St N 255)) (W : World) : Prop :=
  (∃ v, Boxed W w.heap.size 81 v ∧ OwnT W (w.heap.size + 1) v (q0 ++ Re.flat l (pre.map Subtype.val)).length (q0 ++ Re.flat l (pre.map Subtype.val)) ∧ (∀ j, v.ownBlock = some j → P j ∨ n₀ ≤ j)) ∧
  Below w.heap.size w W ∧ n₀ ≤ W.heap.size ∧ Marks (w.heap.size + 1) n₀ Ds W
theorem reI_own (w : World) (P : Nat → Prop) (n₀ : Nat) (Ds : List Nat) (q0 : List UInt8) (l : List Int) (N B : Nat) (hB : n₀ ≤ B) (hn : w.heap.size + 1 ≤ n₀) : OwnFrom B (ReI w P n₀ Ds q0 l N) := by
  rintro pre X Y row ⟨⟨v, hv, hr, hp⟩, hb, hs, hm⟩ hg hrow
  have hne : ∀ k, k < n₀ → some k ≠ row := fun k hk e => by have := (hrow k e.symm).1; omega
  refine ⟨⟨v, hv.kept hg (hne _ (by omega)), World.ownsRow.kept (show World.ownsRow _ _ _ _ _ _ _ from hr) hg ?_, hp⟩, hb.grown hg hb.size (fun k e => by have := (hrow k e).1; omega), Nat.le_trans hs hg.size, hm.1, fun D hD => ⟨(hm.2 D hD).1, (hm.2 D hD).2.1, (hg.block D (lt_of_at (hm.2 D hD).2.2) (hne _ (hm.2 D hD).2.1)).trans (hm.2 D hD).2.2⟩⟩
  by_cases h0 : v.ownBlock = none
  · exact .inl h0
  · refine .inr (fun e => ?_)
    rcases (show World.ownsRow _ _ _ _ _ _ _ from hr).2 with ⟨rfl, _⟩ | ⟨g, cap, cur, rfl, _, h2, _⟩
    · exact h0 rfl
    · obtain ⟨_, o, ho, hc⟩ := hrow g e.symm
      rw [h2] at ho; cases ho; cases hc
theorem re_end {w : World} {P : Nat → Prop} {n₀ : Nat} {Ds : List Nat} {q0 : List UInt8} {l : List Int} {N : Nat} {pre : List (RI.St N 255)} {x : RI.St N 255} {W W' : World} {T : TypeId} {v : Value} {m : Nat} {q : List UInt8} (hI : ReI w P n₀ Ds q0 l N pre W) (hw : WentP P w.heap.size n₀ T W W')
    (hb : Boxed W' w.heap.size 81 v) (hr : OwnT W' (w.heap.size + 1) v m q) (hP : ∀ j, v.ownBlock = some j → P j ∨ n₀ ≤ j) (hq : q = q0 ++ Re.flat l (pre.map Subtype.val) ++ Re.piece l x.1) (B : Nat) : KeepsFrom B W W' ∧ BsP P n₀ W W' ∧ ReI w P n₀ Ds q0 l N (pre ++ [x]) W' := by
  obtain ⟨_, hbel, hs, hm⟩ := hI
  refine ⟨hw.ko.from _, hw.bs, ⟨v, hb, ?_, hP⟩, hbel.trans hw.bl, Nat.le_trans hs hw.bs.1, hm.others hw.ko⟩
  rw [List.map_append, List.map_singleton, Re.flat_snoc, ← List.append_assoc, ← hq, hr.len]
  exact hr
end Go.Proofs.Ytcgmmpfckmhahaa

/- RlePut of the program. -/
namespace Go.Proofs.Ytcgmmpfckmhahaa
open Go.RowKit Go.Shelf

attribute [local go_sem] Oper.semAt_some

/-- the text so far in a row of the call's own -/
def ReSt (w : World) (Ds : List Nat) (q : List UInt8) (W : World) : Prop :=
  (∃ v, Boxed W w.heap.size 81 v ∧ OwnT W (w.heap.size + 1) v q.length q) ∧ Below w.heap.size w W ∧ w.heap.size + 1 ≤ W.heap.size ∧ Marks (w.heap.size + 1) W.heap.size Ds W
theorem reSt_app {w W w4 : World} {Ds : List Nat} {q q2 : List UInt8} {v v4 : Value} {m m' : Nat} (hbel : Below w.heap.size w W) (hsz : w.heap.size + 1 ≤ W.heap.size) (hm : Marks (w.heap.size + 1) W.heap.size Ds W) (hv : Boxed W w.heap.size 81 v) (hr : OwnT W (w.heap.size + 1) v m q) (o : Obj)
    (hg : (W.alloc o).grownBy w4 v.ownBlock) (hown : OwnT w4 (w.heap.size + 1) v4 m' q2) : ReSt w Ds q2 (w4.setCell ⟨w.heap.size, 0, none⟩ v4) := by
  have hA : World.ownsRow (W.alloc o) _ _ _ _ _ _ := World.ownsRow.alloc (show World.ownsRow _ _ _ _ _ _ _ from hr) o
  have hW4 : WentP (fun _ => True) w.heap.size 0 120 W w4 := ((WentP.refl _ _ _ _ W).alloc (Nat.zero_le _) (by omega) o).append hA (fun _ _ => .inl trivial) (by decide) hg (Nat.zero_le _) (by omega) (by simp; omega)
  have hv4 : Boxed w4 w.heap.size 81 v := (hv.alloc o).kept hg (Boxed.not_row (hv.alloc o) (by decide) hA)
  have hW5 := hW4.store hv4 trivial (by decide) v4
  refine ⟨⟨v4, hv4.set _, ?_⟩, hbel.trans hW5.bl, Nat.le_trans hsz hW5.bs.1, (hm.others hW5.ko).up hW5.bs.1⟩
  rw [hown.len]
  exact World.ownsRow.kept (show World.ownsRow _ _ _ _ _ _ _ from hown) (grownBy_setCell' w4 w.heap.size _) (.inr (hv4.not_row (by decide) (show World.ownsRow _ _ _ _ _ _ _ from hown)).symm)
theorem Rows2.at3 {w : World} {a : Option Addr} {ls : List (List Int)} (h : Rows2 w a ls) {k : Nat} (hk : k < ls.length) : ∃ R off a' cap, a = some ⟨R, off, none⟩ ∧ R < w.heap.size ∧ w.cell? ⟨R, off + k, none⟩ = some (.slice a' ls[k].length cap) ∧ Ints w a' ls[k] ∧ ls[k].length ≤ cap := by
  rcases h with e | ⟨R, off, rfl, hR, hc⟩
  · rw [e] at hk; simp at hk
  · obtain ⟨a', cap, h1, h2, h3⟩ := hc k hk
    exact ⟨R, off, a', cap, rfl, hR, h1, h2, h3⟩
/-- where a row lies -/
theorem row_lies {w : World} {a : Option Addr} {l : List Int} (h : Ints w a l) (z : Nat) : ∃ b off, (b < w.heap.size ∨ b = z) ∧ (l.length = 0 ∨ a = some ⟨b, off, none⟩) ∧ ∀ X, Below w.heap.size w X → z < X.heap.size → RI.Lies X b off l := by
  rcases h with rfl | ⟨b, off, rfl, hb, hc⟩
  · exact ⟨z, 0, .inr rfl, .inl rfl, fun X _ hz => ⟨hz, fun i hi => by simp at hi⟩⟩
  · exact ⟨b, off, .inl hb, .inr rfl, fun X hX _ => ⟨Nat.lt_of_lt_of_le hb hX.size, fun i hi => (hX.cell (p := ⟨b, off + i, none⟩) hb).trans (hc i hi)⟩⟩

set_option linter.unusedSimpArgs false in
set_option maxRecDepth 100000 in
set_option maxHeartbeats 8000000 in
theorem impl_rlePut_in (a : Option Addr) (n cap : Nat) (ls : List (List Int)) (w : World) (h : Rows2 w a ls) (hn : ls.length = n) (hnb : n ≤ 100) (hm : ∀ l ∈ ls, l.length ≤ 2000000) :
    CallsIn Fence.wide 3 Try.prog 43 #[.slice a n cap] w fun e W' => e = .returned (.string ⟨(Re.all ls).toArray⟩) ∧ Below w.heap.size w W' := by
  have hro : Fence.wide.round = none := rfl
  obtain ⟨i0, hi0, hz0, hz1, hz2⟩ := info_parts info_u8t
  have HN : Hid (ls.length = n) := hn
  have HR : Hid (Rows2 w a ls) := h
  have HM : Hid (∀ l ∈ ls, l.length ≤ 2000000) := hm
  have d1 : decide ((n : Int) > 100) = false := by simp; omega
  clear h hn hm
  refine callsIn_of_wp_marks Try.func43 rfl trivial ?_ hro
  simp only [Try.ntmps43, List.size_toArray, List.length_cons, List.length_nil, Nat.reduceAdd, Nat.reduceSub, Array.replicate_succ, Array.replicate_zero, List.push_toArray, List.append_toArray, List.nil_append, List.cons_append]
  gi_wp2
  refine wpIn_loop (fun a' W => ∃ (k : Nat) (Ds : List Nat) (q : List UInt8), (k ≤ n ∧ Hid (q = Re.part (ls.take k) ∧ ∀ l ∈ ls.take k, Re.okRow l = true) ∧ Hid (ReSt w Ds q W)) ∧ ∃ u4 u5 u6 u13 u14 u15 u16 u17 u18 u19 u20 u21 u22 u23 u24 u25 u26 u27 u28 u29 u30 u31 u32 u33 u34 u35 u36 u37 u38 u39 u40 u41 u42 u43 u44 u45 u46 u47 u48 u49 : Value,
    a' = { tmps := #[.slice a n cap, undef, .string ⟨#[]⟩, .pointer (some ⟨w.heap.size, 0, none⟩), u4, u5, u6, .slice a n cap, .int .i64 (n : Int), .bool false, .slice a n cap, .int .i64 (n : Int), .int .i64 (k : Int), u13, u14, u15, u16, u17, u18, u19, u20, u21, u22, u23, u24, u25, u26, u27, u28, u29, u30, u31, u32, u33, u34, u35, u36, u37, u38, u39, u40, u41, u42, u43, u44, u45, u46, u47, u48, u49], defers := Ds.map markOf }) (fun a' _ => n - (intOf (a'.tmps.getD 12 undef)).toNat) ?_ ?_
  · exact ⟨0, [], [], ⟨Nat.zero_le _, ⟨by simp [Re.part], by simp⟩, ⟨_, Boxed.new w 81 _, ownT_nil _ _⟩, (Below.refl _ _).alloc (Nat.le_refl _) _, by simp, List.nodup_nil, fun D hD => by simp at hD⟩, _, _, _, _, _, _, _, _, _, _, _, _, _, _, _, _, _, _, _, _, _, _, _, _, _, _, _, _, _, _, _, _, _, _, _, _, _, _, _, _, rfl⟩
  rintro _ W ⟨k, Ds, q, ⟨hk, HQ, HS⟩, u4, u5, u6, u13, u14, u15, u16, u17, u18, u19, u20, u21, u22, u23, u24, u25, u26, u27, u28, u29, u30, u31, u32, u33, u34, u35, u36, u37, u38, u39, u40, u41, u42, u43, u44, u45, u46, u47, u48, u49, rfl⟩
  have hqb : q.length ≤ 30000 := by
    rw [HQ.out.1]
    have h1 := Re.part_len (ls.take k) (fun l hl => Re.okRow_len (HQ.out.2 l hl))
    have h2 : (ls.take k).length ≤ k := List.length_take_le _ _
    omega
  by_cases hlt : k < n
  rotate_left
  · have hki : ¬ (k : Int) < (n : Int) := by omega
    have HF : Hid (Re.all ls = q ++ [0, 1]) := by
      show _ = _
      have hte : ls.take k = ls := List.take_of_length_le (by rw [HN.out]; omega)
      have h2 := HQ.out.2
      rw [hte] at h2
      rw [HQ.out.1, hte, Re.all_good (by rw [HN.out]; exact hnb) h2]
    obtain ⟨⟨v, hv, hrow⟩, hbel, hsz, hmk⟩ := HS.out
    have HV : Hid (Boxed W w.heap.size 81 v) := hv
    have HRW : Hid (OwnT W (w.heap.size + 1) v q.length q) := hrow
    have HMK : Hid (Marks (w.heap.size + 1) W.heap.size Ds W) := hmk
    have hvc := hv.cell
    clear hrow hv hmk HS HQ
    gi_wp2_with (gi_at_builtin; refine wpListIn_append_own _ rfl _ _ 81 rfl (w.heap.size + 1) 5 i0 (.int .u8 0) 1 1 Try.underlying81 hi0 hz0 hz1 hz2 rfl (by decide) v q.length (u8V q) rfl (World.ownsRow.alloc (show World.ownsRow _ _ _ _ _ _ _ from HRW.out) _) ⟨W.heap.size, 0, none⟩ 2 2 [.int .u8 0, .int .u8 1] rfl rfl (World.news_of_block (heap_alloc_new _ _)) (fun x hx => by simp at hx; rcases hx with rfl | rfl <;> rfl) (by unfold maxLen; omega) (by omega) (Nat.le_trans hsz (by simp)) ?_)
    intro v4 w4 hown4 hg4 _
    have hown5 : OwnT w4 (w.heap.size + 1) v4 (q.length + 2) (q ++ [0, 1]) := by
      unfold OwnT
      rw [← u8V_append, show u8V [0, 1] = [.int .u8 0, .int .u8 1] from rfl]
      exact hown4
    have htx := hown5.text
    have HB : Hid (Below w.heap.size w w4 ∧ Marks (w.heap.size + 1) W.heap.size Ds w4) := by
      have hA : World.ownsRow (W.alloc (.cells #[.int .u8 0, .int .u8 1] 5)) _ _ _ _ _ _ := World.ownsRow.alloc (show World.ownsRow _ _ _ _ _ _ _ from HRW.out) _
      have hW4 : WentP (fun _ => True) w.heap.size 0 120 W w4 := ((WentP.refl _ _ _ _ W).alloc (Nat.zero_le _) (by omega) (.cells #[.int .u8 0, .int .u8 1] 5)).append hA (fun _ _ => .inl trivial) (by decide) hg4 (Nat.zero_le _) (by omega) (by simp; omega)
      exact ⟨hbel.trans hW4.bl, HMK.out.others hW4.ko⟩
    clear hown4 hg4 hown5 HMK HRW hvc
    gi_wp2
    refine leaves_marks (fun _ => results_tmp rfl _ _ _) (w.heap.size + 1) W.heap.size Ds _ HB.out.2 (fun W' hW' => ⟨by rw [HF.out]; rfl, HB.out.1.trans (hW'.mono (by omega))⟩)
  have hki : (k : Int) < (n : Int) := by omega
  have hkl : k < ls.length := by rw [HN.out]; exact hlt
  obtain ⟨R, off0, a', cap', rfl, hR, hcell0, hints, hcap'⟩ := HR.out.at3 hkl
  have hmb : ls[k].length ≤ 2000000 := HM.out _ (List.getElem_mem hkl)
  have hcell : W.cell? ⟨R, off0 + k, none⟩ = some (.slice a' ls[k].length cap') := (HS.out.2.1.cell (p := ⟨R, off0 + k, none⟩) hR).trans hcell0
  have HIN : Hid (Ints w a' ls[k]) := hints
  have HIW : Hid (Ints W a' ls[k]) := hints.kept HS.out.2.1
  obtain ⟨l, hl⟩ : ∃ l, l = ls[k] := ⟨_, rfl⟩
  have HLK : Hid (l = ls[k]) := hl
  rw [← hl] at hcell HIN HIW hmb hcap'
  obtain ⟨m, hm⟩ : ∃ m, m = l.length := ⟨_, rfl⟩
  have HML : Hid (m = l.length) := hm
  rw [← hm] at hcell hmb hcap'
  clear hints hcell0 hl hm
  by_cases hbig : 100 < m
  · have hbi : decide ((m : Int) > 100) = true := by simp; omega
    have HF : Hid (Re.all ls = []) := Re.all_bad k hkl (Re.okRow_long (by rw [← HLK.out, ← HML.out]; exact hbig))
    have HMK : Hid (Marks (w.heap.size + 1) W.heap.size Ds W) := HS.out.2.2.2
    have HBL : Hid (Below w.heap.size w W) := HS.out.2.1
    clear HIN HIW HS HQ HR
    gi_wp2
    refine ⟨trivial, ?_⟩
    gi_wp2
    refine leaves_marks (fun _ => results_tmp rfl _ _ _) (w.heap.size + 1) W.heap.size Ds _ HMK.out (fun W' hW' => ⟨by rw [HF.out]; rfl, HBL.out.trans (hW'.mono (by omega))⟩)
  have hbi : decide ((m : Int) > 100) = false := by simp; omega
  have HNF : Hid (Calls Try.prog 75 #[.slice a' m cap', .int .i64 8] W fun e w' => e = .returned (.bool (Rt.fit 1 l)) ∧ w' = W) := numbersFit_any a' m cap' 8 1 l W HIW.out HML.out.symm hmb rfl (by omega)
  cases hft : Rt.fit 1 l with
  | false =>
    have HF : Hid (Re.all ls = []) := Re.all_bad k hkl (by unfold Re.okRow; rw [← HLK.out, hft, Bool.and_false])
    have HMK : Hid (Marks (w.heap.size + 1) W.heap.size Ds W) := HS.out.2.2.2
    have HBL : Hid (Below w.heap.size w W) := HS.out.2.1
    rw [hft] at HNF
    clear HIN HIW HS HQ HR hft
    gi_wp2
    refine ⟨trivial, ?_⟩
    gi_wp2
    refine (callsIn_wide.2 HNF.out).mono ?_
    rintro e w2 ⟨rfl, hw2⟩
    subst hw2
    clear HNF
    gi_wp2
    refine leaves_marks (fun _ => results_tmp rfl _ _ _) (w.heap.size + 1) w2.heap.size Ds _ HMK.out (fun W' hW' => ⟨by rw [HF.out]; rfl, HBL.out.trans (hW'.mono (by omega))⟩)
  | true =>
    have HFT : Hid (Rt.fit 1 l = true) := hft
    rw [hft] at HNF
    have HOK : Hid (Re.okRow l = true) := by unfold Re.okRow; show _ = true; rw [hft, ← HML.out, decide_eq_true (by omega)]; rfl
    obtain ⟨q2, hq2⟩ : ∃ q2, q2 = q ++ Re.sep k n := ⟨_, rfl⟩
    have HQ2 : Hid (q2 = q ++ Re.sep k n) := hq2
    clear hft hq2 HIW
    gi_upto_region 7 with fail
    gi_wp2
    refine ⟨trivial, ?_⟩
    gi_upto_if 26 with fail
    refine (callsIn_wide.2 HNF.out).mono ?_
    rintro e w2 ⟨rfl, hw2⟩
    replace hw2 := hw2.symm
    subst hw2
    clear HNF
    gi_upto_if 26 with fail
    gi_cut [] from 13 (fun wc => Hid (ReSt w Ds q2 wc))
    case first =>
      clear HR HM HIN HFT HOK hcell
      obtain ⟨⟨v, hv, hrow⟩, hbel, hsz, hmk⟩ := HS.out
      by_cases hk0 : 0 < k
      · have hq2 : q2 = q ++ [0, 0] := by rw [HQ2.out]; unfold Re.sep; rw [if_pos ⟨hk0, hlt⟩]
        have HQ3 : Hid (q2 = q ++ [0, 0]) := hq2
        have HV : Hid (Boxed W w.heap.size 81 v) := hv
        have HRW : Hid (OwnT W (w.heap.size + 1) v q.length q) := hrow
        have HMK : Hid (Marks (w.heap.size + 1) W.heap.size Ds W) := hmk
        have hvc := hv.cell
        clear hrow hv hmk HS HQ hq2 HQ2
        gi_wp2_with (gi_at_builtin; refine wpListIn_append_own _ rfl _ _ 81 rfl (w.heap.size + 1) 5 i0 (.int .u8 0) 1 1 Try.underlying81 hi0 hz0 hz1 hz2 rfl (by decide) v q.length (u8V q) rfl (World.ownsRow.alloc (show World.ownsRow _ _ _ _ _ _ _ from HRW.out) _) ⟨W.heap.size, 0, none⟩ 2 2 [.int .u8 0, .int .u8 0] rfl rfl (World.news_of_block (heap_alloc_new _ _)) (fun x hx => by simp at hx; rw [hx]; rfl) (by unfold maxLen; omega) (by omega) (Nat.le_trans hsz (by simp)) ?_)
        intro v4 w4 hown4 hg4 _
        obtain ⟨g, cap4, rfl⟩ := ownsRow_succ hown4
        have hown5 : OwnT w4 (w.heap.size + 1) (.slice (some ⟨g, 0, none⟩) (q.length + 2) cap4) (q.length + 2) q2 := by
          unfold OwnT
          rw [HQ3.out, ← u8V_append, show u8V [0, 0] = [.int .u8 0, .int .u8 0] from rfl]
          exact hown4
        have HE : Hid (ReSt w Ds q2 (w4.setCell ⟨w.heap.size, 0, none⟩ (.slice (some ⟨g, 0, none⟩) (q.length + 2) cap4))) := reSt_app hbel hsz HMK.out HV.out HRW.out _ hg4 hown5
        have hA : World.ownsRow (W.alloc (.cells #[.int .u8 0, .int .u8 0] 5)) _ _ _ _ _ _ := World.ownsRow.alloc (show World.ownsRow _ _ _ _ _ _ _ from HRW.out) _
        have hv4 : Boxed w4 w.heap.size 81 v := (HV.out.alloc _).kept hg4 (Boxed.not_row (HV.out.alloc _) (by decide) hA)
        have hv4c := hv4.cell
        have hv4f := hv4.frozen
        clear hown4 hg4 hown5 HMK HRW hvc hA hv4
        gi_wp2
        gi_meet
        case rel => exact HE
      · have hq2 : q2 = q := by rw [HQ2.out]; unfold Re.sep; rw [if_neg (by omega), List.append_nil]
        have HE : Hid (ReSt w Ds q2 W) := by rw [hq2]; exact HS
        have hk00 : k = 0 := by omega
        clear hq2 HQ2 HQ HS hv hrow hmk
        gi_wp2
        gi_meet
        case rel => exact HE
    case rest =>
      have HC : Hid (ReSt w Ds q2 wc) := hcut
      have hq2b : q2.length ≤ 30002 := by
        rw [HQ2.out, List.length_append]
        have : (Re.sep k n).length ≤ 2 := by unfold Re.sep; split <;> simp
        omega
      clear hcut HS hcell
      gi_wp2
      refine ⟨trivial, ?_⟩
      gi_wp2
      refine (callsIn_wide.2 (RI.stretchesOf_any a' m cap' 1 255 _)).mono ?_
      rintro e w3 ⟨rfl, hw3⟩
      gi_wp2
      clear hw3
      obtain ⟨⟨v, hv, hrow⟩, hbel, hsz, hmk⟩ := HC.out
      obtain ⟨b, off, hbb, hba, hlies⟩ := row_lies HIN.out wc.heap.size
      obtain ⟨P, hP⟩ : ∃ P : Nat → Prop, P = fun j => j = w.heap.size ∨ some j = v.ownBlock := ⟨_, rfl⟩
      have hvlo : ∀ j, v.ownBlock = some j → w.heap.size + 1 ≤ j ∧ j < wc.heap.size := fun j hj => World.ownsRow.lt (show World.ownsRow _ _ _ _ _ _ _ from hrow) j hj
      have HPN : ∀ j, wc.heap.size ≤ j → ¬ P j := fun j hj hp => by
        rw [hP] at hp
        rcases hp with hp | hp
        · omega
        · have := hvlo j hp.symm; omega
      have HPB : Hid (¬ P b) := by
        rcases hbb with hbb | hbb
        · intro hp
          rw [hP] at hp
          rcases hp with hp | hp
          · omega
          · have := hvlo b hp.symm; omega
        · exact HPN b (by omega)
      have HLI : Hid (∀ X, Below w.heap.size w X → wc.heap.size + 3 ≤ X.heap.size → RI.Lies X b off l) := fun X h1 h2 => hlies X h1 (by omega)
      have HPA : Hid (P w.heap.size) := by rw [hP]; exact .inl rfl
      have HPV : ∀ j, v.ownBlock = some j → P j ∨ wc.heap.size + 3 ≤ j := fun j hj => by rw [hP]; exact .inl (.inr hj.symm)
      have hbn : b < wc.heap.size + 3 := by omega
      have hbA : b ≠ w.heap.size := by omega
      obtain ⟨W0, hW0⟩ : ∃ W0, ((wc.alloc (.cells #[.slice a' m cap'] 22)).alloc (.cells #[.int .i64 1] 3)).alloc (.cells #[.int .i64 255] 3) = W0 := ⟨_, rfl⟩
      rw [hW0]
      have HZ : Hid (W0.heap.size = wc.heap.size + 3) := by show _ = _; rw [← hW0]; simp
      have HB0 : Hid (Below wc.heap.size wc W0) := by
        show Below _ _ _
        rw [← hW0]; exact (((Below.refl _ wc).alloc (Nat.le_refl _) _).alloc (by simp) _).alloc (by simp; omega) _
      have HBw : Hid (Below w.heap.size w W0) := hbel.trans (HB0.out.mono (by omega))
      have HBx : Hid (Boxed W0 w.heap.size 81 v) := by
        show Boxed _ _ _ _
        rw [← hW0]; exact ((hv.alloc _).alloc _).alloc _
      have HRx : Hid (OwnT W0 (w.heap.size + 1) v q2.length q2) := by
        show OwnT _ _ _ _ _
        rw [← hW0]; exact ((hrow.alloc _).alloc _).alloc _
      have HH : Hid (RI.Held W0 a' wc.heap.size (wc.heap.size + 2) (wc.heap.size + 1) b off cap' m 1 255 l) := by
        refine ⟨?_, ?_, ?_, hlies W0 HBw.out (by rw [HZ.out]; omega)⟩
        · rw [← hW0]
          exact (((Boxed.new wc 22 _).alloc _).alloc _).cell
        · rw [← hW0, show wc.heap.size + 2 = ((wc.alloc (.cells #[.slice a' m cap'] 22)).alloc (.cells #[.int .i64 1] 3)).heap.size by simp]
          exact (Boxed.new _ 3 _).cell
        · rw [← hW0, show wc.heap.size + 1 = (wc.alloc (.cells #[.slice a' m cap'] 22)).heap.size by simp]
          exact ((Boxed.new _ 3 _).alloc _).cell
      have HMK : Hid (Marks (w.heap.size + 1) (wc.heap.size + 3) Ds W0) := (hmk.below HB0.out (Nat.le_refl _)).up (by omega)
      clear hW0 hP hlies hmk hrow hv
      have HS := RI.stretchesP_stops 2 (by omega) a' wc.heap.size (wc.heap.size + 2) (wc.heap.size + 1) b off cap' m 1 255 (wc.heap.size + 3) P l W0 (by omega) (by omega) (by omega) hbn (HPN _ (Nat.le_refl _)) (HPN _ (by omega)) (HPN _ (by omega)) HPB.out (by rw [HZ.out]; exact Nat.le_refl _)
        HML.out.symm (by omega) (by omega) (by omega) (by omega) hcap' (by rw [← HML.out] at hba; exact hba) HH.out
      refine wpIn_rangeFunc_ownH hro (by omega) (gf := 112) (lb := _) rfl trivial (enters_of Try.func112 (by kernel_rfl) rfl)
        HS BsP.trans (BsP.book (by rw [HZ.out]; exact Nat.le_refl _)) (Below.refl _ _) (fun _ => rfl)
        (ReI w P (wc.heap.size + 3) Ds q2 l m) (fun _ _ _ => False) (reI_own w P _ Ds q2 l m _ (by rw [HZ.out]; exact Nat.le_refl _) (by omega)) (fun _ _ _ _ _ hs _ _ => hs)
        ⟨⟨v, HBx.out, by simp only [List.map_nil, Re.flat, List.flatMap_nil, List.append_nil]; exact HRx.out, HPV⟩, HBw.out, by rw [HZ.out]; exact Nat.le_refl _, HMK.out⟩
        (fun x a1 X => ∃ Bx, wc.heap.size + 3 ≤ Bx ∧ X.heap[Bx]? = some (.cells #[.slice (some ⟨b, off + x.1.1, none⟩) x.1.2.1 (cap' - x.1.1), .bool x.1.2.2] 120 (0, 0)) ∧
          a1 = { tmps := #[.slice (some ⟨R, off0, none⟩) n cap, undef, .string ⟨#[]⟩, .pointer (some ⟨w.heap.size, 0, none⟩), .int .i64 (k : Int), .slice a' m cap', .pointer (some ⟨Bx, 0, none⟩), .slice (some ⟨R, off0, none⟩) n cap, .int .i64 (n : Int), .bool false, .slice (some ⟨R, off0, none⟩) n cap, .int .i64 (n : Int), .int .i64 (k : Int), u13, u14, u15, u16, u17, u18, u19, u20, u21, u22, u23, u24, u25, u26, u27, u28, u29, .slice a' m cap', .func (.func 112) #[] #[.pointer (some ⟨wc.heap.size, 0, none⟩), .pointer (some ⟨wc.heap.size + 2, 0, none⟩), .pointer (some ⟨wc.heap.size + 1, 0, none⟩)], .agg #[.slice (some ⟨b, off + x.1.1, none⟩) x.1.2.1 (cap' - x.1.1), .bool x.1.2.2], u33, u34, u35, u36, u37, u38, u39, u40, u41, u42, u43, u44, u45, u46, u47, u48, u49], defers := [] })
        ?ax ?assign ?body ?done ?stop
      case ax =>
        rintro x a1 _ X Y row ⟨Bx, h1, h2, h3⟩ hg hrow
        refine ⟨Bx, h1, (hg.block Bx (lt_of_at h2) (fun e => ?_)).trans h2, h3⟩
        obtain ⟨_, o, ho, hc⟩ := hrow Bx e.symm
        rw [h2] at ho; cases ho; cases hc
      case assign =>
        rintro r pre x X K hi hK
        dsimp only [RI.enc]
        gi_wp2
        have hsX := hi.2.2.1
        exact hK _ _ ((KeepsOthers.alloc _ _).from _) (BsP.of ((Below.refl _ X).alloc hsX _)) ((reI_own w P _ Ds q2 l m _ (Nat.le_refl _) (by omega)).alloc _ hi) ⟨X.heap.size, hsX, heap_alloc_new _ _, rfl⟩
      case body =>
        rintro r pre ⟨⟨i, z, ag⟩, hk1, hzl, hzm⟩ a1 X _ ⟨rr, hrr⟩ hI ⟨Bx, hBx, hbx, rfl⟩ hpl
        have HI : Hid (ReI w P (wc.heap.size + 3) Ds q2 l m pre X) := hI
        obtain ⟨⟨v1, hv1, hrow1, hP1⟩, hbelX, hsX, hmkX⟩ := hI
        dsimp only at hk1 hzl hzm hbx
        have hfl := Re.flat_len l (pre.map Subtype.val)
        rw [List.length_map] at hfl
        have hpl2 : pre.length ≤ 100 := by
          have h1 := Rn.all_len (least := 1) (m := 255) (l := l) (l.length - 0) 0
          have h2 : (Rn.from_ 1 255 l 0).length ≤ l.length - 0 := h1
          rw [← HML.out] at h2
          omega
        obtain ⟨q1, hq1⟩ : ∃ q1, q1 = q2 ++ Re.flat l (pre.map Subtype.val) := ⟨_, rfl⟩
        obtain ⟨m1, hm1⟩ : ∃ m1, m1 = q1.length := ⟨_, rfl⟩
        rw [← hq1, ← hm1] at hrow1
        have hmb1 : m1 ≤ 40000 := by rw [hm1, hq1, List.length_append]; omega
        have HR1 : Hid (OwnT X (w.heap.size + 1) v1 m1 q1) := hrow1
        have HV1 : Hid (Boxed X w.heap.size 81 v1) := hv1
        have HP1 : Hid (∀ j, v1.ownBlock = some j → P j ∨ wc.heap.size + 3 ≤ j) := hP1
        have HX : Hid (X.heap[Bx]? = some (.cells #[.slice (some ⟨b, off + i, none⟩) z (cap' - i), .bool ag] 120 (0, 0))) := hbx
        have hBA : Bx ≠ w.heap.size := by omega
        have hAX : w.heap.size + 1 ≤ X.heap.size := by omega
        have hck : 1 ≤ cap' - i := by omega
        have hzck : z ≤ cap' - i := by omega
        have c0 := cell_two0 hbx
        have hvc := hv1.cell
        have hvf := hv1.frozen
        have hil : i < l.length := by rw [← HML.out]; omega
        obtain ⟨y, hy⟩ : ∃ y, y = (l[i]).toNat := ⟨_, rfl⟩
        have hfi := Rt.fit_at HFT.out i hil
        have e256 : ((256 ^ 1 : Nat) : Int) = 256 := by decide
        rw [e256] at hfi
        have hyl : l[i] = (y : Int) := by rw [hy]; omega
        have hyb : y < 256 := by omega
        have cy : X.cell? ⟨b, off + i, none⟩ = some (.int .i64 (y : Int)) := by
          have h1 := (HLI.out X hbelX hsX).2 i hil
          rw [h1, hyl]
        obtain ⟨u, hu⟩ : ∃ u, u = (UInt8.ofNat z).toNat := ⟨_, rfl⟩
        have e2 : IntKind.u8.wrap (z : Int) = (u : Int) := by rw [hu]; simp [IntKind.wrap, IntKind.bits, IntKind.signed]
        have e3 : IntKind.u8.wrap (y : Int) = (y : Int) := by simp [IntKind.wrap, IntKind.bits, IntKind.signed]; omega
        have HU : Hid (u8V [UInt8.ofNat z, UInt8.ofNat y] = [.int .u8 (u : Int), .int .u8 (y : Int)]) := by
          show _ = _
          rw [hu]; simp [u8V]; omega
        have HQ1 : Hid (q1 ++ [UInt8.ofNat z, UInt8.ofNat y] = q2 ++ Re.flat l (pre.map Subtype.val) ++ Re.piece l (i, z, ag)) := by
          show _ = _
          rw [hq1]
          unfold Re.piece
          rw [show l.getD i 0 = l[i] by rw [List.getD_eq_getElem?_getD, List.getElem?_eq_getElem hil]; rfl, ← hy]
        have SA0 : (X.drew.alloc (.cells #[.int .u8 (u : Int), .int .u8 (y : Int)] 5)).cell? ⟨Bx, 0, none⟩ = some (.slice (some ⟨b, off + i, none⟩) z (cap' - i)) := (World.cell?_alloc_some X _ _ (by rw [c0]; rfl)).trans c0
        have SA1 : (X.drew.alloc (.cells #[.int .u8 (u : Int), .int .u8 (y : Int)] 5)).cell? ⟨b, off + i, none⟩ = some (.int .i64 (y : Int)) := (World.cell?_alloc_some X _ _ (by rw [cy]; rfl)).trans cy
        have hzc : 0 < z := by omega
        clear hrow1 hv1 hbx hfl hpl hm1 hq1 HS HH HB0 HBx HRx hrr hy hyl hfi hu hil e256 HQ2 HQ HBw HC HPN hmkX hP1 hpl2
        gi_wp2
        refine round_region_held (S := fun w' => w'.cell? ⟨Bx, 0, none⟩ = some (.slice (some ⟨b, off + i, none⟩) z (cap' - i)) ∧ w'.cell? ⟨b, off + i, none⟩ = some (.int .i64 (y : Int))) (by kernel_rfl) (fun _ _ h => h) (by kernel_rfl) ⟨c0, cy⟩ (fun _ => ?_)
        refine wpAnyH_take (i := 1) (v := .pointer (some ⟨Bx, 0, none⟩)) rfl (by kernel_rfl) (by kernel_rfl) (by kernel_rfl) (fun _ _ _ h => h) (Or.inl ⟨by rfl, ?_⟩) ⟨c0, cy⟩ ?_
        · rintro w' ⟨s1, s2⟩
          go_simp
        try simp only [Act.put, List.setIfInBounds_toArray, List.set_cons_zero, List.set_cons_succ]
        refine wpAnyH_take (i := 2) (v := .slice (some ⟨b, off + i, none⟩) z (cap' - i)) rfl (by kernel_rfl) (by kernel_rfl) (by kernel_rfl) (fun _ _ _ h => h) (Or.inl ⟨by rfl, ?_⟩) ⟨c0, cy⟩ ?_
        · rintro w' ⟨s1, s2⟩
          go_simp
        try simp only [Act.put, List.setIfInBounds_toArray, List.set_cons_zero, List.set_cons_succ]
        refine wpAnyH_take (i := 3) (v := .int .i64 (z : Int)) rfl (by kernel_rfl) (by kernel_rfl) (by kernel_rfl) (fun _ _ _ h => h) (Or.inl ⟨by rfl, ?_⟩) ⟨c0, cy⟩ ?_
        · rintro w' ⟨s1, s2⟩
          go_simp
        try simp only [Act.put, List.setIfInBounds_toArray, List.set_cons_zero, List.set_cons_succ]
        refine wpAnyH_take (i := 4) (v := .int .u8 (u : Int)) rfl (by kernel_rfl) (by kernel_rfl) (by kernel_rfl) (fun _ _ _ h => h) (Or.inl ⟨by rfl, ?_⟩) ⟨c0, cy⟩ ?_
        · rintro w' ⟨s1, s2⟩
          go_simp
        try simp only [Act.put, List.setIfInBounds_toArray, List.set_cons_zero, List.set_cons_succ]
        refine wpAnyH_take (i := 5) (v := .pointer (some ⟨Bx, 0, none⟩)) rfl (by kernel_rfl) (by kernel_rfl) (by kernel_rfl) (fun _ _ _ h => h) (Or.inl ⟨by rfl, ?_⟩) ⟨c0, cy⟩ ?_
        · rintro w' ⟨s1, s2⟩
          go_simp
        try simp only [Act.put, List.setIfInBounds_toArray, List.set_cons_zero, List.set_cons_succ]
        refine wpAnyH_take (i := 6) (v := .slice (some ⟨b, off + i, none⟩) z (cap' - i)) rfl (by kernel_rfl) (by kernel_rfl) (by kernel_rfl) (fun _ _ _ h => h) (Or.inl ⟨by rfl, ?_⟩) ⟨c0, cy⟩ ?_
        · rintro w' ⟨s1, s2⟩
          go_simp
        try simp only [Act.put, List.setIfInBounds_toArray, List.set_cons_zero, List.set_cons_succ]
        refine wpAnyH_take (i := 7) (v := .pointer (some ⟨b, off + i, none⟩)) rfl (by kernel_rfl) (by kernel_rfl) (by kernel_rfl) (fun _ _ _ h => h) (Or.inl ⟨by rfl, ?_⟩) ⟨c0, cy⟩ ?_
        · rintro w' ⟨s1, s2⟩
          go_simp
        try simp only [Act.put, List.setIfInBounds_toArray, List.set_cons_zero, List.set_cons_succ]
        refine wpAnyH_take (i := 8) (v := .int .i64 (y : Int)) rfl (by kernel_rfl) (by kernel_rfl) (by kernel_rfl) (fun _ _ _ h => h) (Or.inl ⟨by rfl, ?_⟩) ⟨c0, cy⟩ ?_
        · rintro w' ⟨s1, s2⟩
          go_simp
        try simp only [Act.put, List.setIfInBounds_toArray, List.set_cons_zero, List.set_cons_succ]
        refine wpAnyH_take (i := 9) (v := .int .u8 (y : Int)) rfl (by kernel_rfl) (by kernel_rfl) (by kernel_rfl) (fun _ _ _ h => h) (Or.inl ⟨by rfl, ?_⟩) ⟨c0, cy⟩ ?_
        · rintro w' ⟨s1, s2⟩
          go_simp
        try simp only [Act.put, List.setIfInBounds_toArray, List.set_cons_zero, List.set_cons_succ]
        refine wpAnyH_ready (rs := [0, 10]) (by kernel_rfl) (by simp) ?_
        refine AllReadyH.cons rfl (fun K hK => ?_) (AllReadyH.cons rfl (fun K hK => ?_) AllReadyH.nil)
        · go_simp
          refine hK.out _ _ ⟨c0, cy⟩ (fun _ => ?_)
          clear hK K
          try simp only [Act.put, List.setIfInBounds_toArray, List.set_cons_zero, List.set_cons_succ]
          refine wpAnyH_ready (rs := [10]) (by kernel_rfl) (by simp) ?_
          refine AllReadyH.cons rfl (fun K hK => ?_) AllReadyH.nil
          go_simp
          refine hK.out _ _ ⟨SA0, SA1⟩ (fun _ => ?_)
          clear hK K
          try simp only [Act.put, List.setIfInBounds_toArray, List.set_cons_zero, List.set_cons_succ]
          refine wpAnyH_ready (rs := [11]) (by kernel_rfl) (by simp) ?_
          refine AllReadyH.cons rfl (fun K hK => ?_) AllReadyH.nil
          refine step_append_lies _ (by rfl) _ _ _ (by rfl) (w.heap.size + 1) 5 i0 (.int .u8 0) 1 1 Try.underlying81 hi0 hz0 hz1 hz2 rfl (by decide) v1 m1 (u8V q1) (by rfl) (World.ownsRow.alloc (show World.ownsRow _ _ _ _ _ _ _ from HR1.out) _) ⟨X.heap.size, 0, none⟩ 2 2 [.int .u8 (u : Int), .int .u8 (y : Int)] (by rfl) rfl (World.news_of_block (heap_alloc_new _ _)) (fun x hx => by simp at hx; rcases hx with rfl | rfl <;> rfl) (by decide) (by unfold maxLen; omega) (by omega) (Nat.le_trans hAX (by simp)) _ rfl ?_
          intro g cap4 w4 hown4 hg4 hg5 _
          have hW4 : WentP P w.heap.size (wc.heap.size + 3) 120 X w4 := (((WentP.refl _ _ _ _ X).drew.alloc (X := X.drew) hsX (show w.heap.size ≤ X.heap.size by omega) (.cells #[.int .u8 (u : Int), .int .u8 (y : Int)] 5))).append (World.ownsRow.alloc (show World.ownsRow _ _ _ _ _ _ _ from HR1.out) _) HP1.out (by decide) hg4 (Nat.le_trans hsX (by simp)) (by omega) (by simp; omega)
          have hvA' : Boxed (X.alloc (.cells #[.int .u8 (u : Int), .int .u8 (y : Int)] 5)).drew w.heap.size 81 v1 := HV1.out.alloc (.cells #[.int .u8 (u : Int), .int .u8 (y : Int)] 5)
          have hv4 : Boxed w4 w.heap.size 81 v1 := hvA'.kept hg4 (Boxed.not_row hvA' (by decide) (World.ownsRow.alloc (show World.ownsRow _ _ _ _ _ _ _ from HR1.out) _))
          have hx4 := hW4.bx _ _ _ HX.out
          have hown5 : OwnT w4 (w.heap.size + 1) (.slice (some ⟨g, 0, none⟩) (m1 + 2) cap4) (m1 + 2) (q1 ++ [UInt8.ofNat z, UInt8.ofNat y]) := by
            unfold OwnT
            rw [← u8V_append, HU.out]
            exact hown4
          have hP4 : ∀ j, (Value.slice (some ⟨g, 0, none⟩) (m1 + 2) cap4).ownBlock = some j → P j ∨ wc.heap.size + 3 ≤ j := fun j hj => by
            simp [Value.ownBlock] at hj
            subst hj
            rcases hg5 with hg5 | hg5
            · exact HP1.out _ hg5
            · right; rw [hg5]; simp; omega
          have c0' := cell_two0 hx4
          have cy' : w4.cell? ⟨b, off + i, none⟩ = some (.int .i64 (y : Int)) := (World.cell?_of_block (w := X) (a := ⟨b, off + i, none⟩) (hW4.bs.2 b hbn HPB.out)).trans cy
          refine hK.out _ _ ⟨c0', cy'⟩ (fun _ => ?_)
          clear hK K
          try simp only [Act.put, List.setIfInBounds_toArray, List.set_cons_zero, List.set_cons_succ]
          refine wpAnyH_ready (rs := [12]) (by kernel_rfl) (by simp) ?_
          refine AllReadyH.cons rfl (fun K hK => ?_) AllReadyH.nil
          have hv4c := hv4.cell
          have hv4f := hv4.frozen
          go_simp
          refine hK.out _ _ ⟨(World.cell?_setCell_other _ _ _ _ (fun e => hBA (congrArg Addr.block e).symm)).trans c0', (World.cell?_setCell_other _ _ _ _ (fun e => hbA (congrArg Addr.block e).symm)).trans cy'⟩ (fun _ => ?_)
          clear hK K
          try simp only [Act.put, List.setIfInBounds_toArray, List.set_cons_zero, List.set_cons_succ]
          refine wpAnyH_done (by kernel_rfl) ?_ _
          exact re_end HI.out (hW4.store hv4 HPA.out (by decide) _) (hv4.set _) (World.ownsRow.kept (show World.ownsRow _ _ _ _ _ _ _ from hown5) (grownBy_setCell' w4 w.heap.size _) (.inr (hv4.not_row (by decide) (show World.ownsRow _ _ _ _ _ _ _ from hown5)).symm)) hP4 HQ1.out _
        · go_simp
          refine hK.out _ _ ⟨SA0, SA1⟩ (fun _ => ?_)
          clear hK K
          try simp only [Act.put, List.setIfInBounds_toArray, List.set_cons_zero, List.set_cons_succ]
          refine wpAnyH_ready (rs := [0]) (by kernel_rfl) (by simp) ?_
          refine AllReadyH.cons rfl (fun K hK => ?_) AllReadyH.nil
          have hvA : (X.alloc (.cells #[.int .u8 (u : Int), .int .u8 (y : Int)] 5)).cell? ⟨w.heap.size, 0, none⟩ = some v1 := (HV1.out.alloc (.cells #[.int .u8 (u : Int), .int .u8 (y : Int)] 5)).cell
          go_simp
          refine hK.out _ _ ⟨SA0, SA1⟩ (fun _ => ?_)
          clear hK K
          try simp only [Act.put, List.setIfInBounds_toArray, List.set_cons_zero, List.set_cons_succ]
          refine wpAnyH_ready (rs := [11]) (by kernel_rfl) (by simp) ?_
          refine AllReadyH.cons rfl (fun K hK => ?_) AllReadyH.nil
          refine step_append_lies _ (by rfl) _ _ _ (by rfl) (w.heap.size + 1) 5 i0 (.int .u8 0) 1 1 Try.underlying81 hi0 hz0 hz1 hz2 rfl (by decide) v1 m1 (u8V q1) (by rfl) (World.ownsRow.alloc (show World.ownsRow _ _ _ _ _ _ _ from HR1.out) _) ⟨X.heap.size, 0, none⟩ 2 2 [.int .u8 (u : Int), .int .u8 (y : Int)] (by rfl) rfl (World.news_of_block (heap_alloc_new _ _)) (fun x hx => by simp at hx; rcases hx with rfl | rfl <;> rfl) (by decide) (by unfold maxLen; omega) (by omega) (Nat.le_trans hAX (by simp)) _ rfl ?_
          intro g cap4 w4 hown4 hg4 hg5 _
          have hW4 : WentP P w.heap.size (wc.heap.size + 3) 120 X w4 := (((WentP.refl _ _ _ _ X).drew.alloc (X := X.drew) hsX (show w.heap.size ≤ X.heap.size by omega) (.cells #[.int .u8 (u : Int), .int .u8 (y : Int)] 5))).append (World.ownsRow.alloc (show World.ownsRow _ _ _ _ _ _ _ from HR1.out) _) HP1.out (by decide) hg4 (Nat.le_trans hsX (by simp)) (by omega) (by simp; omega)
          have hvA' : Boxed (X.alloc (.cells #[.int .u8 (u : Int), .int .u8 (y : Int)] 5)).drew w.heap.size 81 v1 := HV1.out.alloc (.cells #[.int .u8 (u : Int), .int .u8 (y : Int)] 5)
          have hv4 : Boxed w4 w.heap.size 81 v1 := hvA'.kept hg4 (Boxed.not_row hvA' (by decide) (World.ownsRow.alloc (show World.ownsRow _ _ _ _ _ _ _ from HR1.out) _))
          have hx4 := hW4.bx _ _ _ HX.out
          have hown5 : OwnT w4 (w.heap.size + 1) (.slice (some ⟨g, 0, none⟩) (m1 + 2) cap4) (m1 + 2) (q1 ++ [UInt8.ofNat z, UInt8.ofNat y]) := by
            unfold OwnT
            rw [← u8V_append, HU.out]
            exact hown4
          have hP4 : ∀ j, (Value.slice (some ⟨g, 0, none⟩) (m1 + 2) cap4).ownBlock = some j → P j ∨ wc.heap.size + 3 ≤ j := fun j hj => by
            simp [Value.ownBlock] at hj
            subst hj
            rcases hg5 with hg5 | hg5
            · exact HP1.out _ hg5
            · right; rw [hg5]; simp; omega
          have c0' := cell_two0 hx4
          have cy' : w4.cell? ⟨b, off + i, none⟩ = some (.int .i64 (y : Int)) := (World.cell?_of_block (w := X) (a := ⟨b, off + i, none⟩) (hW4.bs.2 b hbn HPB.out)).trans cy
          refine hK.out _ _ ⟨c0', cy'⟩ (fun _ => ?_)
          clear hK K
          try simp only [Act.put, List.setIfInBounds_toArray, List.set_cons_zero, List.set_cons_succ]
          refine wpAnyH_ready (rs := [12]) (by kernel_rfl) (by simp) ?_
          refine AllReadyH.cons rfl (fun K hK => ?_) AllReadyH.nil
          have hv4c := hv4.cell
          have hv4f := hv4.frozen
          go_simp
          refine hK.out _ _ ⟨(World.cell?_setCell_other _ _ _ _ (fun e => hBA (congrArg Addr.block e).symm)).trans c0', (World.cell?_setCell_other _ _ _ _ (fun e => hbA (congrArg Addr.block e).symm)).trans cy'⟩ (fun _ => ?_)
          clear hK K
          try simp only [Act.put, List.setIfInBounds_toArray, List.set_cons_zero, List.set_cons_succ]
          refine wpAnyH_done (by kernel_rfl) ?_ _
          exact re_end HI.out (hW4.store hv4 HPA.out (by decide) _) (hv4.set _) (World.ownsRow.kept (show World.ownsRow _ _ _ _ _ _ _ from hown5) (grownBy_setCell' w4 w.heap.size _) (.inr (hv4.not_row (by decide) (show World.ownsRow _ _ _ _ _ _ _ from hown5)).symm)) hP4 HQ1.out _
      case done =>
        rintro D ys X hD hys ⟨⟨v1, hv1, hrow1, hP1⟩, hbelX, hsX, hmkX⟩ hK
        rw [hys] at hrow1
        have HQN : Hid (q2 ++ Re.flat l (Rn.from_ 1 255 l 0) = Re.part (ls.take (k + 1)) ∧ ∀ l ∈ ls.take (k + 1), Re.okRow l = true) := by
          refine ⟨?_, fun r hr => ?_⟩
          · rw [HQ2.out, HQ.out.1, ← Re.part_step hkl, HN.out, ← HLK.out]; rfl
          · rw [List.take_succ_eq_append_getElem hkl, List.mem_append, List.mem_singleton] at hr
            rcases hr with hr | hr
            · exact HQ.out.2 r hr
            · rw [hr, ← HLK.out]; exact HOK.out
        have HSN : Hid (ReSt w (D :: Ds) (q2 ++ Re.flat l (Rn.from_ 1 255 l 0)) X) := ⟨⟨v1, hv1, hrow1⟩, hbelX, by omega, hmkX.cons (by rw [HZ.out] at hD; exact hD) (by rw [HZ.out] at hD; omega) hK (lt_of_at hK)⟩
        have hk62 : k < 1000 := by omega
        clear HS HC hv1 hrow1 hP1 hmkX
        gi_wp2
        refine ⟨⟨k + 1, D :: Ds, _, ⟨by omega, HQN, HSN⟩, _, _, _, _, _, _, _, _, _, _, _, _, _, _, _, _, _, _, _, _, _, _, _, _, _, _, _, _, _, _, _, _, _, _, _, _, _, _, _, _, rfl⟩, ?_⟩
        simp [intOf]
        omega
      case stop =>
        rintro D c pre X _ _ h _
        exact h.elim
end Go.Proofs.Ytcgmmpfckmhahaa

/- RlePut of the program, at every rows. -/
namespace Go.Proofs.Ytcgmmpfckmhahaa
open Go.RowKit

set_option maxHeartbeats 1000000 in
theorem impl_rlePut (a : Option Addr) (n cap : Nat) (ls : List (List Int)) (w : World) (h : Rows2 w a ls) (hn : ls.length = n) (hnb : n ≤ 2000000) (hm : ∀ l ∈ ls, l.length ≤ 2000000) :
    Calls Try.prog 43 #[.slice a n cap] w fun e w' => e = .returned (.string ⟨(Re.all ls).toArray⟩) ∧ Below w.heap.size w w' := by
  by_cases hbig : 100 < n
  · have hbi : (100 : Int) < (n : Int) := by omega
    have HF : Hid (Re.all ls = []) := Re.all_many (by omega)
    clear h hn hm
    go_enter Try.func43, Try.ntmps43
    go_wp2_with fail
    go_ret
    exact ⟨by rw [HF.out]; rfl, Below.refl _ _⟩
  · exact callsIn_wide.1 (impl_rlePut_in a n cap ls w h hn (by omega) hm)

end Go.Proofs.Ytcgmmpfckmhahaa

/- The points of a BMP, as the program writes them. -/
namespace Go.Proofs.Ytcgmmpfckmhahaa
open Go.RowKit Go.Shelf

attribute [local go_sem] Oper.semAt_some

set_option maxHeartbeats 400000 in
theorem fillOf_any (n : Nat) (hn : n ≤ 1000000) (w : World) :
    Calls Try.prog 45 #[.int .i64 (n : Int)] w fun e w' => e = .returned (.int .i64 ((Bm.fill n : Nat) : Int)) ∧ w' = w := by
  have e1 : (n : Int).tmod 4 = ((n % 4 : Nat) : Int) := by rw [Int.tmod_eq_emod_of_nonneg (by omega)]; omega
  have e1' : (n : Int) % 4 = ((n % 4 : Nat) : Int) := by omega
  obtain ⟨r, hr⟩ : ∃ r, r = n % 4 := ⟨_, rfl⟩
  have hrb : r < 4 := by omega
  obtain ⟨d, hd⟩ : ∃ d, d = 4 - r := ⟨_, rfl⟩
  have e2 : 4 - (r : Int) = (d : Int) := by omega
  obtain ⟨F, hF⟩ : ∃ F, F = Bm.fill n := ⟨_, rfl⟩
  have e3' : (d : Int) % 4 = (F : Int) := by rw [hF]; unfold Bm.fill; omega
  have e3 : (d : Int).tmod 4 = (F : Int) := by rw [Int.tmod_eq_emod_of_nonneg (by omega)]; exact e3'
  rw [← hr] at e1 e1'
  rw [← hF]
  have hdb : d ≤ 4 := by omega
  clear hr hd hF
  go_enter Try.func45, Try.ntmps45
  go_wp2_with fail
  go_ret
  exact ⟨rfl, rfl⟩

theorem ownT_shape {w : World} {B n : Nat} {v : Value} {l : List UInt8} (h : OwnT w B v n l) : ∃ a cap, v = .slice a n cap := by
  rcases h.2 with ⟨rfl, h0⟩ | ⟨g, cap, _, rfl, _⟩
  · exact ⟨none, 0, by rw [h0]⟩
  · exact ⟨_, _, rfl⟩

/-- the bytes so far, in a box -/
def BdI (B S : Nat) (w : World) (pre : List (Nat × List Int)) (W : World) : Prop :=
  (∃ v m q, Boxed W B 81 v ∧ OwnT W B v m q ∧ q = Bm.lines S (pre.map (·.2)) ∧ m ≤ 83 * pre.length) ∧ Below B w W
theorem bdI_own (B S C : Nat) (w : World) (hB : B + 1 ≤ C) (hw : B ≤ w.heap.size) : OwnFrom C (BdI B S w) := by
  rintro pre X Y row ⟨⟨v, m, q, hv, ho, hq, hm⟩, hb⟩ hg hrow
  refine ⟨⟨v, m, q, hv.kept hg (fun e => by have := (hrow _ e.symm).1; omega), World.ownsRow.kept (show World.ownsRow _ _ _ _ _ _ _ from ho) hg ?_, hq, hm⟩, hb.grown hg (Nat.le_trans hw hb.size) (fun r e => by have := (hrow r e).1; omega)⟩
  cases hv' : v.ownBlock with
  | none => exact .inl rfl
  | some j =>
    refine .inr (fun e => ?_)
    obtain ⟨_, o, ho', hcells⟩ := hrow j e.symm
    rcases ho.2 with ⟨rfl, _⟩ | ⟨g, cap, cur, rfl, _, hgb, _⟩
    · simp [Value.ownBlock] at hv'
    · obtain rfl : g = j := by simpa [Value.ownBlock] using hv'
      rw [hgb] at ho'; cases ho'; cases hcells

set_option linter.unusedSimpArgs false in
set_option maxRecDepth 100000 in
set_option maxHeartbeats 4000000 in
theorem bmpData_plain (k : Int) (D S Wd Hi : Nat) (ca : Option Addr) (cn cc : Nat) (pa : Option Addr) (pn pc : Nat) (ps : List Int) (w : World) (hp : Ints w pa ps) (hpn : ps.length = pn) (hW : Wd ≤ 20) (hH : Hi ≤ 20) (hm : pn = Wd * Hi) (hS1 : 1 ≤ S) (hS : S ≤ 4) (hD : D = 8 * S) (hf : Rt.fit S ps = true) :
    CallsIn Fence.wide 2 Try.prog 18 #[.agg #[.int .i64 k, .int .i64 (D : Int), .int .i64 (Wd : Int), .int .i64 (Hi : Int), .slice ca cn cc, .slice pa pn pc], .bool false] w fun e w' => e = .returned (.string ⟨(Bm.lines S (Bm.rows Wd Hi ps)).toArray⟩) ∧ Below w.heap.size w w' := by
  have hro : Fence.wide.round = none := rfl
  obtain ⟨W0, hW0⟩ : ∃ W0, W0 = w.alloc (.cells #[.int .i64 k, .int .i64 (D : Int), .int .i64 (Wd : Int), .int .i64 (Hi : Int), .slice ca cn cc, .slice pa pn pc] 27) := ⟨_, rfl⟩
  have bW : Below w.heap.size w W0 := by rw [hW0]; exact (Below.refl _ _).alloc (Nat.le_refl _) _
  have HBX : Hid (Bx W0 w.heap.size (.int .i64 k) (.int .i64 (D : Int)) (.int .i64 (Wd : Int)) (.int .i64 (Hi : Int)) (.slice ca cn cc) (.slice pa pn pc)) := by rw [hW0]; exact bx_new w _ _ _ _ _ _ 27
  have hlt0 : w.heap.size < W0.heap.size := by rw [hW0]; simp
  have hseq := rows1_fit 1 (Nat.le_refl _) (fun l => Rt.fit S l = true) _ _ _ _ _ _ Wd Hi _ hW hH W0 (flip_seen k (D : Int) Wd Hi ca cn cc pa pn pc ps W0 (hp.kept bW) hpn hW hH hm) (fun l hl => Bm.rows_fit (Wd := Wd) (Hi := Hi) (ps := ps) hl (by rw [hpn, hm]) hf)
  have hq : (D : Int) / 8 = (S : Int) := by omega
  have hq2 : (D : Int).tdiv 8 = (S : Int) := by rw [Int.tdiv_eq_ediv_of_nonneg (by omega)]; exact hq
  clear hp hpn hm hf hD
  refine callsIn_of_wp_marks Try.func18 rfl trivial ?_ hro
  simp only [Try.ntmps18, List.size_toArray, List.length_cons, List.length_nil, Nat.reduceAdd, Nat.reduceSub, Array.replicate_succ, Array.replicate_zero, List.push_toArray, List.append_toArray, List.nil_append, List.cons_append]
  have ha : ∀ v, w.alloc (.cells #[.int .i64 k, .int .i64 (D : Int), .int .i64 (Wd : Int), .int .i64 (Hi : Int), .slice ca cn cc, .slice pa pn pc] 27) = v → W0 = v := fun v h => hW0.trans h
  obtain ⟨_, a0, a1, a2, a3, a4, a5⟩ := HBX.out
  rw [hW0] at a0 a1 a2 a3 a4 a5
  gi_wp2
  rw [← hW0]
  rw [← hW0] at a0 a1 a2 a3 a4 a5
  clear hW0 ha
  refine ⟨trivial, ?_⟩
  gi_wp2
  refine (callsIn_wide.2 (rowsOf_any _ _ W0)).mono ?_
  rintro e w2 ⟨rfl, hw2⟩
  have hs2 : w2.heap.size = W0.heap.size + 1 := by rw [hw2]; simp
  have b2 : Below W0.heap.size W0 w2 := by rw [hw2]; exact (Below.refl _ _).alloc (Nat.le_refl _) _
  rw [← hw2, ← hs2] at hseq
  have hle2 : W0.heap.size ≤ w2.heap.size := b2.size
  have HSEQ : Hid _ := hseq
  clear hw2 hs2 hseq
  have HB2 : Hid (Below w.heap.size w w2) := bW.trans (b2.mono (by omega))
  have HBX2 : Hid (Bx w2 w.heap.size (.int .i64 k) (.int .i64 (D : Int)) (.int .i64 (Wd : Int)) (.int .i64 (Hi : Int)) (.slice ca cn cc) (.slice pa pn pc)) := HBX.out.kept b2
  clear b2 a0 a1 a2 a3 a4 a5 HBX bW
  gi_wp2
  have bO := Boxed.new w2 81 (.slice none 0 0)
  have hB0 : Below w2.heap.size w2 (w2.alloc (.cells #[.slice none 0 0] 81)) := (Below.refl _ _).alloc (Nat.le_refl _) _
  refine rangeMem (n := 2) (by omega) (gf := 74) (lb := #[.pointer (some ⟨W0.heap.size, 0, none⟩)]) rfl (enters_of Try.func74 (by kernel_rfl) rfl) HSEQ.out hB0 (by simp) (fun _ => rfl) ?_
    (BdI w2.heap.size S w2) (bdI_own _ S _ w2 (by simp) (Nat.le_refl _)) ⟨⟨_, 0, [], bO, ownT_nil _ _, rfl, by simp⟩, hB0⟩
    (fun x => { tmps := #[.agg #[.int .i64 k, .int .i64 (D : Int), .int .i64 (Wd : Int), .int .i64 (Hi : Int), .slice ca cn cc, .slice pa pn pc], .bool false, .pointer (some ⟨w.heap.size, 0, none⟩), undef, .string ⟨#[]⟩, .func (.func 74) #[] #[.pointer (some ⟨W0.heap.size, 0, none⟩)], .pointer (some ⟨w2.heap.size, 0, none⟩), .slice (some ⟨x.1, 0, none⟩) Wd Wd, undef, .agg #[.int .i64 k, .int .i64 (D : Int), .int .i64 (Wd : Int), .int .i64 (Hi : Int), .slice ca cn cc, .slice pa pn pc], .iface 75 (.agg #[.int .i64 k, .int .i64 (D : Int), .int .i64 (Wd : Int), .int .i64 (Hi : Int), .slice ca cn cc, .slice pa pn pc]), .agg #[.iface 75 (.agg #[.int .i64 k, .int .i64 (D : Int), .int .i64 (Wd : Int), .int .i64 (Hi : Int), .slice ca cn cc, .slice pa pn pc])], .iface 79 (.agg #[.iface 75 (.agg #[.int .i64 k, .int .i64 (D : Int), .int .i64 (Wd : Int), .int .i64 (Hi : Int), .slice ca cn cc, .slice pa pn pc])]), .func (.func 74) #[] #[.pointer (some ⟨W0.heap.size, 0, none⟩)], .bool false, undef, undef, undef, .func (.func 74) #[] #[.pointer (some ⟨W0.heap.size, 0, none⟩)], .slice (some ⟨x.1, 0, none⟩) Wd Wd, undef, undef, undef, undef, undef, undef, undef, undef, undef, undef, undef, undef, undef, undef, undef], defers := [] }) ?assign ?body ?done
  · rintro x W l o o' ⟨⟨h1, h2, h3⟩, h4⟩ ho hoc
    exact ⟨⟨rowAt_grown h1 (grownBy_putObj' W l o') (fun r e => by cases e; exact ⟨o, ho, hoc⟩), h2, h3⟩, h4⟩
  case assign =>
    intro l x W K hK
    dsimp only [rowV] at hK ⊢
    gi_wp2
    exact hK
  case body =>
    rintro l pre ⟨b, row⟩ W ⟨⟨v, m, q, hv, ho, hqq, hml⟩, hBW⟩ ⟨⟨hrow, hrl, hb0⟩, hfr⟩ hsW hlen
    dsimp only at hrow hrl hb0 hfr ⊢
    obtain ⟨B, hB⟩ : ∃ B, w2.heap.size = B := ⟨_, rfl⟩
    have hx1 : W.cell? ⟨w.heap.size, 1, none⟩ = some (.int .i64 (D : Int)) := (hBW.cell (p := ⟨w.heap.size, 1, none⟩) (by show w.heap.size < _; omega)).trans HBX2.out.2.2.1
    have hsB : B ≤ W.heap.size := by rw [World.size_alloc] at hsW; omega
    rw [hB] at hv ho hBW hb0 ⊢
    have HQ : Hid (q = Bm.lines S (pre.map (·.2))) := hqq
    have HNT : Hid (Calls Try.prog 20 #[.slice (some ⟨b, 0, none⟩) Wd Wd, .int .i64 (S : Int), .bool false] W fun e w' => e = .returned (.string ⟨(Rt.txt S row).toArray⟩) ∧ Below W.heap.size W w') := numberText_ints _ Wd Wd S row W (.inr ⟨b, 0, rfl, hrow.lt, fun j hj => by rw [Nat.zero_add]; exact hrow.cell j hj⟩) hrl (by omega) hS1 hS hfr
    obtain ⟨p, hp⟩ : ∃ p, p = Rt.txt S row := ⟨_, rfl⟩
    have hpl : p.length = S * Wd := by rw [hp, Rt.txt_len, hrl]
    have hp80 : S * Wd ≤ 4 * 20 := Nat.mul_le_mul hS hW
    obtain ⟨F, hF⟩ : ∃ F, F = Bm.fill p.length := ⟨_, rfl⟩
    have HFC : Hid (∀ w : World, Calls Try.prog 45 #[.int .i64 (p.length : Int)] w fun e w' => e = .returned (.int .i64 (F : Int)) ∧ w' = w) := fun w => by rw [hF]; exact fillOf_any p.length (by omega) w
    have HP : Hid (p = Rt.txt S row) := hp
    have HFF : Hid (F = Bm.fill (S * row.length)) := by show _ = _; rw [hF, hpl, hrl]
    have HPL : Hid (p.length ≤ 80 ∧ F ≤ 3 ∧ m ≤ 83 * pre.length ∧ pre.length < 20) := ⟨by omega, by rw [hF]; exact Bm.fill_le _, hml, by omega⟩
    rw [← hp] at HNT
    clear hqq hp hF hpl hp80 hrow hfr hml
    gi_wp2
    refine ⟨trivial, rfl, ?_⟩
    refine (CallsIn.inRound l (callsIn_wide.2 HNT.out)).mono ?_
    rintro e W1 ⟨rfl, b1⟩
    have hv1 : Boxed W1 B 81 v := (b1.block _ hv.lt).trans hv
    have ho1 := OwnT.kept ho b1
    have hk1 : Bk B W W1 := (Bk.refl B W).call b1 hsB
    have hs1 : B ≤ W1.heap.size := Nat.le_trans hsB b1.size
    have c1 := hv1.cell
    clear b1 hv ho hx1 HNT
    gi_wp2_with (gi_at_builtin; refine wpListIn_appTs W1 (by rfl) _ _ (by rfl) B _ m q p (by rfl) ho1 (by rfl) (by have := HPL.out; omega) hs1 ?_; intro v4' w4 hown4 hg4; obtain ⟨ax4, cap4, rfl⟩ := ownT_shape hown4; have hv4 := hv1.kept hg4 (Boxed.not_row hv1 (by decide) (show World.ownsRow _ _ _ _ _ _ _ from ho1)); have c4 := hv4.cell; have f4 := hv4.frozen)
    obtain ⟨v4, hv4e⟩ : ∃ v4, v4 = Value.slice ax4 (m + p.length) cap4 := ⟨_, rfl⟩
    rw [← hv4e] at hown4 ⊢
    have hk4 : Bk B W w4 := hk1.own (show World.ownsRow _ _ _ _ _ _ _ from ho1) hg4 (Nat.le_refl _) hs1
    obtain ⟨X, hX⟩ : ∃ X, X = w4.setCell ⟨B, 0, none⟩ v4 := ⟨_, rfl⟩
    have HVX : Hid (Boxed X B 81 v4) := by rw [hX]; exact hv4.set v4
    have HKX : Hid (Bk B W X) := by rw [hX]; exact hk4.store B (Nat.le_refl _) v4
    have HOX : Hid (OwnT X B v4 (m + p.length) (q ++ p)) := by
      rw [hX]
      exact World.ownsRow.kept (show World.ownsRow _ _ _ _ _ _ _ from hown4) (grownBy_setCell' w4 B _) (.inr (hv4.not_row (by decide) (show World.ownsRow _ _ _ _ _ _ _ from hown4)).symm)
    have hsX : B ≤ X.heap.size := Nat.le_trans hsB HKX.out.below.size
    rw [← hX]
    clear hv4e hX hv4 hown4 hg4 c4 f4 hk4 hv1 ho1 hk1 c1
    refine round_region_held (S := fun _ => True) (by kernel_rfl) (fun _ _ h => h) (by kernel_rfl) trivial (fun _ => ?_)
    refine wpAnyH_take (i := 1) (v := .string ⟨p.toArray⟩) rfl (by kernel_rfl) (by kernel_rfl) (by kernel_rfl) (fun _ _ _ h => h) (Or.inl ⟨by rfl, ?_⟩) trivial ?_
    · intro w' s1
      go_simp
    try simp only [Act.put, List.setIfInBounds_toArray, List.set_cons_zero, List.set_cons_succ]
    refine wpAnyH_take (i := 2) (v := .int .i64 (p.length : Int)) rfl (by kernel_rfl) (by kernel_rfl) (by kernel_rfl) (fun _ _ _ h => h) (Or.inl ⟨by rfl, ?_⟩) trivial ?_
    · intro w' s1
      go_simp
    try simp only [Act.put, List.setIfInBounds_toArray, List.set_cons_zero, List.set_cons_succ]
    refine wpAnyH_ready (rs := [0, 3]) (by kernel_rfl) (by simp) ?_
    refine AllReadyH.cons rfl (fun K hK => ?_) (AllReadyH.cons rfl (fun K hK => ?_) AllReadyH.nil)
    · have cx := HVX.out.cell
      go_simp
      refine hK.out _ _ trivial (fun _ => ?_)
      clear hK K
      try simp only [Act.put, List.setIfInBounds_toArray, List.set_cons_zero, List.set_cons_succ]
      refine wpAnyH_ready (rs := [3]) (by kernel_rfl) (by simp) ?_
      refine AllReadyH.cons rfl (fun K hK => ?_) AllReadyH.nil
      go_simp
      refine (HFC.out _).mono ?_
      rintro e w6 ⟨rfl, hw6⟩
      subst hw6
      go_wp2_with fail
      refine hK.out _ _ trivial (fun _ => ?_)
      clear hK K
      try simp only [Act.put, List.setIfInBounds_toArray, List.set_cons_zero, List.set_cons_succ]
      refine wpAnyH_ready (rs := [4]) (by kernel_rfl) (by simp) ?_
      refine AllReadyH.cons rfl (fun K hK => ?_) AllReadyH.nil
      refine step_zeros X.drew (by rfl) _ _ (by rfl) B _ (m + p.length) (q ++ p) F (by rfl) HOX.out (by rfl) (by have := HPL.out; omega) hsX ?_
      intro v7 w7 hown7 hg7
      obtain ⟨ax7, cap7, rfl⟩ := ownT_shape hown7
      have hvd : Boxed X.drew B 81 v4 := HVX.out
      have hv7 := hvd.kept hg7 (Boxed.not_row hvd (by decide) (show World.ownsRow X.drew _ _ _ _ _ _ from HOX.out))
      have hk7 : Bk B W w7 := HKX.out.drew.own (show World.ownsRow X.drew _ _ _ _ _ _ from HOX.out) hg7 (Nat.le_refl _) hsX
      refine hK.out _ _ trivial (fun _ => ?_)
      clear hK K
      try simp only [Act.put, List.setIfInBounds_toArray, List.set_cons_zero, List.set_cons_succ]
      refine wpAnyH_ready (rs := [5]) (by kernel_rfl) (by simp) ?_
      refine AllReadyH.cons rfl (fun K hK => ?_) AllReadyH.nil
      have c7 := hv7.cell
      have f7 := hv7.frozen
      go_simp
      refine hK.out _ _ trivial (fun _ => ?_)
      clear hK K
      refine wpAnyH_done (by kernel_rfl) ?_ _
      have hk8 := hk7.store B (Nat.le_refl _) (.slice ax7 (m + p.length + F) cap7)
      refine ⟨hk8.keeps.from _, hk8.below, ⟨_, m + p.length + F, q ++ p ++ List.replicate F 0, hv7.set _, ?_, ?_, ?_⟩, hBW.trans hk8.below⟩
      · exact World.ownsRow.kept (show World.ownsRow _ _ _ _ _ _ _ from hown7) (grownBy_setCell' w7 B _) (.inr (hv7.not_row (by decide) (show World.ownsRow _ _ _ _ _ _ _ from hown7)).symm)
      · rw [List.map_append, List.map_cons, List.map_nil, Bm.lines_snoc, HQ.out, List.append_assoc]
        unfold Bm.line
        rw [← HP.out, HFF.out]
      · rw [List.length_append, List.length_singleton]; have := HPL.out; omega
    · go_simp
      refine (HFC.out _).mono ?_
      rintro e w6 ⟨rfl, hw6⟩
      subst hw6
      go_wp2_with fail
      refine hK.out _ _ trivial (fun _ => ?_)
      clear hK K
      try simp only [Act.put, List.setIfInBounds_toArray, List.set_cons_zero, List.set_cons_succ]
      refine wpAnyH_ready (rs := [0]) (by kernel_rfl) (by simp) ?_
      refine AllReadyH.cons rfl (fun K hK => ?_) AllReadyH.nil
      have cx := HVX.out.cell
      go_simp
      refine hK.out _ _ trivial (fun _ => ?_)
      clear hK K
      try simp only [Act.put, List.setIfInBounds_toArray, List.set_cons_zero, List.set_cons_succ]
      refine wpAnyH_ready (rs := [4]) (by kernel_rfl) (by simp) ?_
      refine AllReadyH.cons rfl (fun K hK => ?_) AllReadyH.nil
      refine step_zeros X.drew (by rfl) _ _ (by rfl) B _ (m + p.length) (q ++ p) F (by rfl) HOX.out (by rfl) (by have := HPL.out; omega) hsX ?_
      intro v7 w7 hown7 hg7
      obtain ⟨ax7, cap7, rfl⟩ := ownT_shape hown7
      have hvd : Boxed X.drew B 81 v4 := HVX.out
      have hv7 := hvd.kept hg7 (Boxed.not_row hvd (by decide) (show World.ownsRow X.drew _ _ _ _ _ _ from HOX.out))
      have hk7 : Bk B W w7 := HKX.out.drew.own (show World.ownsRow X.drew _ _ _ _ _ _ from HOX.out) hg7 (Nat.le_refl _) hsX
      refine hK.out _ _ trivial (fun _ => ?_)
      clear hK K
      try simp only [Act.put, List.setIfInBounds_toArray, List.set_cons_zero, List.set_cons_succ]
      refine wpAnyH_ready (rs := [5]) (by kernel_rfl) (by simp) ?_
      refine AllReadyH.cons rfl (fun K hK => ?_) AllReadyH.nil
      have c7 := hv7.cell
      have f7 := hv7.frozen
      go_simp
      refine hK.out _ _ trivial (fun _ => ?_)
      clear hK K
      refine wpAnyH_done (by kernel_rfl) ?_ _
      have hk8 := hk7.store B (Nat.le_refl _) (.slice ax7 (m + p.length + F) cap7)
      refine ⟨hk8.keeps.from _, hk8.below, ⟨_, m + p.length + F, q ++ p ++ List.replicate F 0, hv7.set _, ?_, ?_, ?_⟩, hBW.trans hk8.below⟩
      · exact World.ownsRow.kept (show World.ownsRow _ _ _ _ _ _ _ from hown7) (grownBy_setCell' w7 B _) (.inr (hv7.not_row (by decide) (show World.ownsRow _ _ _ _ _ _ _ from hown7)).symm)
      · rw [List.map_append, List.map_cons, List.map_nil, Bm.lines_snoc, HQ.out, List.append_assoc]
        unfold Bm.line
        rw [← HP.out, HFF.out]
      · rw [List.length_append, List.length_singleton]; have := HPL.out; omega
  case done =>
    rintro E xs W hE hxs ⟨⟨v, m, q, hv, ho, hqq, _⟩, hBW⟩ hK
    have hbc := hv.cell
    have htx := OwnT.text ho
    rw [hxs] at hqq
    have HQ : Hid (q = Bm.lines S (Bm.rows Wd Hi ps)) := hqq
    have hbel : Below w.heap.size w W := HB2.out.trans (hBW.mono (Nat.le_of_lt (by omega)))
    have hE2 : w.heap.size ≤ E := by simp at hE; omega
    clear hxs hqq
    gi_wp2
    refine ⟨by simp, .inl ⟨_, _, rfl, run_takeDeferred hK, ?_⟩⟩
    exact ⟨_, results_tmp rfl _ _ _, by rw [← HQ.out]; rfl, hbel.trans (belowK_b (w := w) (Nat.le_refl _) W E _ _ hE2 hK rfl rfl)⟩

set_option maxHeartbeats 2000000 in
set_option maxRecDepth 20000 in
theorem bmpData_runs (k : Int) (D Wd Hi : Nat) (ca : Option Addr) (cn cc : Nat) (pa : Option Addr) (pn pc : Nat) (ps : List Int) (w : World) (hp : Ints w pa ps) (hpn : ps.length = pn) (hW : Wd ≤ 20) (hH : Hi ≤ 20) (hm : pn = Wd * Hi) :
    Calls Try.prog 18 #[.agg #[.int .i64 k, .int .i64 (D : Int), .int .i64 (Wd : Int), .int .i64 (Hi : Int), .slice ca cn cc, .slice pa pn pc], .bool true] w fun e w' => e = .returned (.string ⟨(Re.all (Bm.rows Wd Hi ps)).toArray⟩) ∧ Below w.heap.size w w' := by
  obtain ⟨W0, hW0⟩ : ∃ W0, W0 = w.alloc (.cells #[.int .i64 k, .int .i64 (D : Int), .int .i64 (Wd : Int), .int .i64 (Hi : Int), .slice ca cn cc, .slice pa pn pc] 27) := ⟨_, rfl⟩
  have bW : Below w.heap.size w W0 := by rw [hW0]; exact (Below.refl _ _).alloc (Nat.le_refl _) _
  have HBX : Hid (Bx W0 w.heap.size (.int .i64 k) (.int .i64 (D : Int)) (.int .i64 (Wd : Int)) (.int .i64 (Hi : Int)) (.slice ca cn cc) (.slice pa pn pc)) := by rw [hW0]; exact bx_new w _ _ _ _ _ _ 27
  have HCO : Hid (Calls Try.prog 44 #[.func (.func 74) #[] #[.pointer (some ⟨W0.heap.size, 0, none⟩)]] (W0.alloc (.cells #[.iface 79 (.agg #[.iface 75 (.agg #[.int .i64 k, .int .i64 (D : Int), .int .i64 (Wd : Int), .int .i64 (Hi : Int), .slice ca cn cc, .slice pa pn pc])])] 77)) fun e W' => (∃ a cap, e = .returned (.slice a Hi cap) ∧ Rows2 W' a (Bm.rows Wd Hi ps)) ∧ Below W0.heap.size W0 W') :=
    collectRows _ _ _ _ _ _ Wd Hi _ hW hH W0 (flip_seen k (D : Int) Wd Hi ca cn cc pa pn pc ps W0 (hp.kept bW) hpn hW hH hm)
  have HRL : Hid (∀ (a : Option Addr) (cap : Nat) (w' : World), Rows2 w' a (Bm.rows Wd Hi ps) → Calls Try.prog 43 #[.slice a Hi cap] w' fun e w'' => e = .returned (.string ⟨(Re.all (Bm.rows Wd Hi ps)).toArray⟩) ∧ Below w'.heap.size w' w'') := fun a cap w' h => impl_rlePut a Hi cap _ w' h (Bm.rows_len _ _ _) (by omega) (fun l hl => by rw [Bm.rows_each hl]; omega)
  clear hp hpn hm
  go_enter Try.func18, Try.ntmps18
  go_upto_region 1 with fail
  rw [← hW0]
  clear hW0
  obtain ⟨_, a0, a1, a2, a3, a4, a5⟩ := HBX.out
  go_wp2_with fail
  refine (rowsOf_any _ _ W0).mono ?_
  rintro e w2 ⟨rfl, hw2⟩
  have HC2 := HCO.out
  rw [← hw2] at HC2
  have HCH : Hid _ := HC2
  clear HC2 hw2 HCO a0 a1 a2 a3 a4 a5 HBX
  go_wp2_with fail
  refine (show Calls _ _ _ _ _ from HCH.out).mono ?_
  rintro e w3 ⟨⟨y, cy, rfl, hy⟩, b3⟩
  have bel3 : Below w.heap.size w w3 := bW.trans (b3.mono bW.size)
  have H3 := HRL.out y cy w3 hy
  have H3a : Hid _ := H3
  clear H3 HRL b3 hy HCH bW
  go_wp2_with fail
  refine (show Calls _ _ _ _ _ from H3a.out).mono ?_
  rintro e w4 ⟨rfl, b4⟩
  have bel4 := bel3.trans (b4.mono bel3.size)
  clear b4
  go_wp2_with fail
  go_ret
  exact ⟨rfl, bel4⟩

theorem bmpData_any (k : Int) (D S Wd Hi : Nat) (ca : Option Addr) (cn cc : Nat) (pa : Option Addr) (pn pc : Nat) (ps : List Int) (runs : Bool) (w : World) (hp : Ints w pa ps) (hpn : ps.length = pn) (hW : Wd ≤ 20) (hH : Hi ≤ 20) (hm : pn = Wd * Hi) (hS1 : 1 ≤ S) (hS : S ≤ 4) (hD : D = 8 * S) (hf : Rt.fit S ps = true) :
    Calls Try.prog 18 #[.agg #[.int .i64 k, .int .i64 (D : Int), .int .i64 (Wd : Int), .int .i64 (Hi : Int), .slice ca cn cc, .slice pa pn pc], .bool runs] w fun e w' => e = .returned (.string ⟨(Bm.data S Wd Hi ps runs).toArray⟩) ∧ Below w.heap.size w w' := by
  cases runs with
  | true => exact bmpData_runs k D Wd Hi ca cn cc pa pn pc ps w hp hpn hW hH hm
  | false => exact callsIn_wide.1 (bmpData_plain k D S Wd Hi ca cn cc pa pn pc ps w hp hpn hW hH hm hS1 hS hD hf)
end Go.Proofs.Ytcgmmpfckmhahaa

/- BmpPut of the program. -/
namespace Go.Proofs.Ytcgmmpfckmhahaa
open Go.RowKit

def Bm.hold (k d : Int) : Bool := decide (k = 2) || (decide (k = 4) && decide (d = 8))

set_option maxHeartbeats 1000000 in
theorem bmpHolds_any (k d wd hi : Int) (ca : Option Addr) (cn cc : Nat) (pa : Option Addr) (pn pc : Nat) (ok : Bool) (w : World)
    (hO : ∀ w', Below w.heap.size w w' → Calls Try.prog 41 #[.agg #[.int .i64 k, .int .i64 d, .int .i64 wd, .int .i64 hi, .slice ca cn cc, .slice pa pn pc]] w' fun e w'' => e = .returned (.bool ok) ∧ Below w'.heap.size w' w'') :
    Calls Try.prog 17 #[.agg #[.int .i64 k, .int .i64 d, .int .i64 wd, .int .i64 hi, .slice ca cn cc, .slice pa pn pc]] w fun e w' => e = .returned (.bool (ok && Bm.hold k d)) ∧ Below w.heap.size w w' := by
  have hB0 : Below w.heap.size w (w.alloc (.cells #[.int .i64 k, .int .i64 d, .int .i64 wd, .int .i64 hi, .slice ca cn cc, .slice pa pn pc] 27)) := (Below.refl _ _).alloc (Nat.le_refl _) _
  have HA : Hid (Bx (w.alloc (.cells #[.int .i64 k, .int .i64 d, .int .i64 wd, .int .i64 hi, .slice ca cn cc, .slice pa pn pc] 27)) w.heap.size (.int .i64 k) (.int .i64 d) (.int .i64 wd) (.int .i64 hi) (.slice ca cn cc) (.slice pa pn pc)) := bx_new w _ _ _ _ _ _ 27
  have HO : Hid (∀ w', Below w.heap.size w w' → Calls Try.prog 41 #[.agg #[.int .i64 k, .int .i64 d, .int .i64 wd, .int .i64 hi, .slice ca cn cc, .slice pa pn pc]] w' fun e w'' => e = .returned (.bool ok) ∧ Below w'.heap.size w' w'') := hO
  clear hO
  go_enter Try.func17, Try.ntmps17
  go_wp2_with fail
  refine (HO.out _ hB0).mono ?_
  rintro e w1 ⟨rfl, b1⟩
  have bel1 := hB0.trans (b1.mono hB0.size)
  obtain ⟨_, a0, a1, a2, a3, a4, a5⟩ := HA.out.kept b1
  clear b1 hB0 HA HO
  cases ok with
  | false =>
    go_wp2_with fail
    go_ret
    exact ⟨rfl, bel1⟩
  | true =>
    by_cases h2 : k = 2
    · have HE : Hid ((true && Bm.hold k d) = true) := by show _ = _; unfold Bm.hold; simp [h2]
      have h2b : (k == 2) = true := by simp [h2]
      have h2d : decide (k = 2) = true := by simp [h2]
      subst h2
      go_wp2_with fail
      go_ret
      exact ⟨by rw [HE.out]; rfl, bel1⟩
    · by_cases h4 : k = 4
      · by_cases h8 : d = 8
        · have HE : Hid ((true && Bm.hold k d) = true) := by show _ = _; unfold Bm.hold; simp [h4, h8]
          subst h4
          subst h8
          go_wp2_with fail
          go_ret
          exact ⟨by rw [HE.out]; rfl, bel1⟩
        · have HE : Hid ((true && Bm.hold k d) = false) := by show _ = _; unfold Bm.hold; simp [h4, h8]
          subst h4
          have h8b : (d == 8) = false := beq_eq_false_iff_ne.2 h8
          go_wp2_with fail
          go_ret
          exact ⟨by rw [HE.out]; rfl, bel1⟩
      · have h2b : (k == 2) = false := beq_eq_false_iff_ne.2 h2
        have h4b : (k == 4) = false := beq_eq_false_iff_ne.2 h4
        have HE : Hid ((true && Bm.hold k d) = false) := by show _ = _; unfold Bm.hold; simp [h4, h2]
        go_wp2_with fail
        go_ret
        exact ⟨by rw [HE.out]; rfl, bel1⟩

/-- BmpPut of what a BMP can't hold -/
theorem Bm.rep_is (k d : Int) (runs : Bool) : Bm.rep k d runs = (Bm.hold k d && !(runs && (k != 4))) := by
  unfold Bm.rep Bm.hold
  by_cases h2 : k = 2
  · subst h2; cases runs <;> simp
  · by_cases h4 : k = 4
    · subst h4; cases runs <;> simp
    · cases runs <;> simp [h2, h4]

set_option maxHeartbeats 1000000 in
theorem impl_bmp_no (k d wd hi : Int) (ca : Option Addr) (cn cc : Nat) (pa : Option Addr) (pn pc : Nat) (h runs : Bool) (w : World) (hh : (h && !(runs && (k != 4))) = false)
    (hO : ∀ w', Below w.heap.size w w' → Calls Try.prog 17 #[.agg #[.int .i64 k, .int .i64 d, .int .i64 wd, .int .i64 hi, .slice ca cn cc, .slice pa pn pc]] w' fun e w'' => e = .returned (.bool h) ∧ Below w'.heap.size w' w'') :
    Calls Try.prog 8 #[.agg #[.int .i64 k, .int .i64 d, .int .i64 wd, .int .i64 hi, .slice ca cn cc, .slice pa pn pc], .bool runs] w fun e w' => e = .returned (.string ⟨#[]⟩) ∧ Below w.heap.size w w' := by
  have hB0 : Below w.heap.size w (w.alloc (.cells #[.int .i64 k, .int .i64 d, .int .i64 wd, .int .i64 hi, .slice ca cn cc, .slice pa pn pc] 27)) := (Below.refl _ _).alloc (Nat.le_refl _) _
  have HA : Hid (Bx (w.alloc (.cells #[.int .i64 k, .int .i64 d, .int .i64 wd, .int .i64 hi, .slice ca cn cc, .slice pa pn pc] 27)) w.heap.size (.int .i64 k) (.int .i64 d) (.int .i64 wd) (.int .i64 hi) (.slice ca cn cc) (.slice pa pn pc)) := bx_new w _ _ _ _ _ _ 27
  have HO := hO _ hB0
  have HO' : Hid _ := HO
  clear hO HO
  go_enter Try.func8, Try.ntmps8
  go_wp2_with fail
  refine (show Calls _ _ _ _ _ from HO'.out).mono ?_
  rintro e w1 ⟨rfl, b1⟩
  have bel1 := hB0.trans (b1.mono hB0.size)
  obtain ⟨_, a0, a1, a2, a3, a4, a5⟩ := HA.out.kept b1
  clear b1 hB0 HO' HA
  cases h with
  | false =>
    go_wp2_with fail
    go_ret
    exact ⟨rfl, bel1⟩
  | true =>
    cases runs with
    | false => simp at hh
    | true =>
      have h4 : (k != 4) = true := by simpa using hh
      have h4n : ¬ k = 4 := by simpa using h4
      clear hh
      go_wp2_with fail
      go_ret
      exact ⟨rfl, bel1⟩

set_option maxHeartbeats 4000000 in
set_option maxRecDepth 20000 in
theorem impl_bmp_yes (k : Int) (D S Wd Hi : Nat) (ca : Option Addr) (cn cc : Nat) (pa : Option Addr) (pn pc : Nat) (cs ps : List Int) (runs : Bool) (w : World) (hc : Ints w ca cs) (hcn : cs.length = cn) (hcl : cn ≤ 256) (hp : Ints w pa ps) (hpn : ps.length = pn) (hW : Wd ≤ 20) (hH : Hi ≤ 20) (hm : pn = Wd * Hi) (hS1 : 1 ≤ S) (hS : S ≤ 4) (hD : D = 8 * S) (hf : Rt.fit S ps = true) (hfc : Rt.fit 4 cs = true) (hr4 : runs = true → k = 4)
    (hO : ∀ w', Below w.heap.size w w' → Calls Try.prog 17 #[.agg #[.int .i64 k, .int .i64 (D : Int), .int .i64 (Wd : Int), .int .i64 (Hi : Int), .slice ca cn cc, .slice pa pn pc]] w' fun e w'' => e = .returned (.bool true) ∧ Below w'.heap.size w' w'') :
    Calls Try.prog 8 #[.agg #[.int .i64 k, .int .i64 (D : Int), .int .i64 (Wd : Int), .int .i64 (Hi : Int), .slice ca cn cc, .slice pa pn pc], .bool runs] w fun e w' => e = .returned (.string ⟨([66, 77] ++ Tg.txt (Bm.head D Wd Hi cn (Bm.data S Wd Hi ps runs).length runs) ++ Rt.txt 4 cs ++ Bm.data S Wd Hi ps runs).toArray⟩) ∧ Below w.heap.size w w' := by
  have hB0 : Below w.heap.size w (w.alloc (.cells #[.int .i64 k, .int .i64 (D : Int), .int .i64 (Wd : Int), .int .i64 (Hi : Int), .slice ca cn cc, .slice pa pn pc] 27)) := (Below.refl _ _).alloc (Nat.le_refl _) _
  have HA0 : Hid (Bx (w.alloc (.cells #[.int .i64 k, .int .i64 (D : Int), .int .i64 (Wd : Int), .int .i64 (Hi : Int), .slice ca cn cc, .slice pa pn pc] 27)) w.heap.size (.int .i64 k) (.int .i64 (D : Int)) (.int .i64 (Wd : Int)) (.int .i64 (Hi : Int)) (.slice ca cn cc) (.slice pa pn pc)) := bx_new w _ _ _ _ _ _ 27
  have HO := hO _ hB0
  have HO' : Hid _ := HO
  have HNT : Hid (∀ w' : World, Below w.heap.size w w' → Calls Try.prog 20 #[.slice ca cn cc, .int .i64 4, .bool false] w' fun e w'' => e = .returned (.string ⟨(Rt.txt 4 cs).toArray⟩) ∧ Below w'.heap.size w' w'') := fun w' b => numberText_ints ca cn cc 4 cs w' (hc.kept b) hcn (by omega) (by omega) (by omega) hfc
  have HBD : Hid (∀ w' : World, Below w.heap.size w w' → Calls Try.prog 18 #[.agg #[.int .i64 k, .int .i64 (D : Int), .int .i64 (Wd : Int), .int .i64 (Hi : Int), .slice ca cn cc, .slice pa pn pc], .bool runs] w' fun e w'' => e = .returned (.string ⟨(Bm.data S Wd Hi ps runs).toArray⟩) ∧ Below w'.heap.size w' w'') := fun w' b => bmpData_any k D S Wd Hi ca cn cc pa pn pc ps runs w' (hp.kept b) hpn hW hH hm hS1 hS hD hf
  obtain ⟨T3, hT3⟩ : ∃ T, T = Bm.data S Wd Hi ps runs := ⟨_, rfl⟩
  obtain ⟨T2, hT2⟩ : ∃ T, T = Rt.txt 4 cs := ⟨_, rfl⟩
  have n3 : T3.length ≤ 5000 := by rw [hT3]; exact Bm.data_len S Wd Hi ps runs hS hW hH
  have n2 : T2.length ≤ 1024 := by rw [hT2, Rt.txt_len, hcn]; omega
  rw [← hT3] at HBD ⊢
  rw [← hT2] at HNT ⊢
  obtain ⟨dn, hdn⟩ : ∃ dn, T3.length = dn := ⟨_, rfl⟩
  obtain ⟨bg, hbg⟩ : ∃ bg, bg = 54 + 4 * cn := ⟨_, rfl⟩
  obtain ⟨sz, hsz⟩ : ∃ sz, sz = bg + dn := ⟨_, rfl⟩
  obtain ⟨pk, hpk⟩ : ∃ pk : Int, pk = if runs then 1 else 0 := ⟨_, rfl⟩
  have hhead : Bm.head D Wd Hi cn T3.length runs = [((sz : Int), 4), (0, 4), ((bg : Int), 4), (40, 4), ((Wd : Int), 4), ((Hi : Int), 4), (1, 2), ((D : Int), 2), (pk, 4), ((dn : Int), 4), (0, 4), (0, 4), ((cn : Int), 4), (0, 4)] := by unfold Bm.head; rw [hdn, ← hbg, ← hsz, ← hpk]
  rw [hhead]
  obtain ⟨T1, hT1⟩ : ∃ T, T = Tg.txt [((sz : Int), 4), (0, 4), ((bg : Int), 4), (40, 4), ((Wd : Int), 4), ((Hi : Int), 4), (1, 2), ((D : Int), 2), (pk, 4), ((dn : Int), 4), (0, 4), (0, 4), ((cn : Int), 4), (0, 4)] := ⟨_, rfl⟩
  have hD32 : D ≤ 32 := by omega
  have HFT : Hid (∀ (b : Nat) (w' : World), Bits2 w' (some ⟨b, 0, none⟩) [((sz : Int), 4), (0, 4), ((bg : Int), 4), (40, 4), ((Wd : Int), 4), ((Hi : Int), 4), (1, 2), ((D : Int), 2), (pk, 4), ((dn : Int), 4), (0, 4), (0, 4), ((cn : Int), 4), (0, 4)] → Calls Try.prog 19 #[.slice (some ⟨b, 0, none⟩) 14 14] w' fun e w'' => e = .returned (.string ⟨T1.toArray⟩) ∧ Below w'.heap.size w' w'') := fun b w' h => by
    have h1 : 0 ≤ pk ∧ pk ≤ 1 := by rw [hpk]; split <;> omega
    rw [hT1]
    refine fieldText_any b 0 14 14 _ w' h rfl (by omega) (fun z hz => ?_)
    simp only [List.mem_cons, List.not_mem_nil, or_false] at hz
    rcases hz with rfl | rfl | rfl | rfl | rfl | rfl | rfl | rfl | rfl | rfl | rfl | rfl | rfl | rfl <;> simp <;> omega
  have n1 : T1.length ≤ 56 := by rw [hT1]; exact Tg.txt_short _ (fun z hz => by simp only [List.mem_cons, List.not_mem_nil, or_false] at hz; rcases hz with rfl | rfl | rfl | rfl | rfl | rfl | rfl | rfl | rfl | rfl | rfl | rfl | rfl | rfl <;> simp)
  rw [← hT1]
  have hAPP : ByteArray.mk #[66, 77] ++ ByteArray.mk T1.toArray ++ ByteArray.mk T2.toArray ++ ByteArray.mk T3.toArray = ByteArray.mk ([66, 77] ++ T1 ++ T2 ++ T3).toArray := by rw [show (#[66, 77] : Array UInt8) = ([66, 77] : List UInt8).toArray from rfl, ByteArray.mk_append_mk, ByteArray.mk_append_mk, ByteArray.mk_append_mk]
  obtain ⟨R, hR⟩ : ∃ R, R = ByteArray.mk ([66, 77] ++ T1 ++ T2 ++ T3).toArray := ⟨_, rfl⟩
  rw [← hR] at hAPP ⊢
  have HAPP : Hid (ByteArray.mk #[66, 77] ++ ByteArray.mk T1.toArray ++ ByteArray.mk T2.toArray ++ ByteArray.mk T3.toArray = R) := hAPP
  clear hR hAPP
  have ecn : 4 * (cn : Int) = ((4 * cn : Nat) : Int) := by omega
  obtain ⟨c4, hc4⟩ : ∃ c4, c4 = 4 * cn := ⟨_, rfl⟩
  have e1 : 4 * (cn : Int) = (c4 : Int) := by omega
  have e2 : 54 + (c4 : Int) = (bg : Int) := by omega
  have e3 : (bg : Int) + (dn : Int) = (sz : Int) := by omega
  have hc4b : c4 ≤ 1024 := by omega
  have hbgb : bg ≤ 2000 := by omega
  have hszb : sz ≤ 8000 := by omega
  have hdnb : dn ≤ 5000 := by omega
  have hsT : (ByteArray.mk T3.toArray).size = dn := by rw [← hdn]; simp [ByteArray.size]
  have HR4 : Hid (runs = true → k = 4) := hr4
  have HPK : Hid (pk = if runs then 1 else 0) := hpk
  clear hO HO hc hcn hp hpn hm hS1 hS hD hf hfc hT1 hT2 hT3 hhead hdn hbg hsz hpk ecn hc4 hr4
  obtain ⟨S3, hS3⟩ : ∃ S3 : ByteArray, S3 = ⟨T3.toArray⟩ := ⟨_, rfl⟩
  rw [← hS3] at hsT HBD HAPP
  have hS3b : S3.size ≤ 5000 := by rw [hsT]; exact hdnb
  have HST : Hid (S3.size = dn) := hsT
  clear hS3
  go_enter Try.func8, Try.ntmps8
  go_wp2_with fail
  refine (show Calls _ _ _ _ _ from HO'.out).mono ?_
  rintro e W1 ⟨rfl, b1⟩
  have HB1 : Hid (Below w.heap.size w W1) := hB0.trans (b1.mono hB0.size)
  have HBX1 : Hid (Bx W1 w.heap.size (.int .i64 k) (.int .i64 (D : Int)) (.int .i64 (Wd : Int)) (.int .i64 (Hi : Int)) (.slice ca cn cc) (.slice pa pn pc)) := HA0.out.kept b1
  obtain ⟨_, a0, a1, a2, a3, a4, a5⟩ := HBX1.out
  clear b1 hB0 HO' HA0
  cases runs with
  | false =>
    obtain rfl : pk = 0 := HPK.out
    clear HPK HR4
    go_wp2_with fail
    refine (HBD.out _ HB1.out).mono ?_
    rintro e W2 ⟨rfl, b2⟩
    have HB2 : Hid (Below w.heap.size w W2) := HB1.out.trans (b2.mono HB1.out.size)
    have HBX2 : Hid (Bx W2 w.heap.size (.int .i64 k) (.int .i64 (D : Int)) (.int .i64 (Wd : Int)) (.int .i64 (Hi : Int)) (.slice ca cn cc) (.slice pa pn pc)) := HBX1.out.kept b2
    clear b2 HB1 HBX1 HBD a0 a1 a2 a3 a4 a5
    obtain ⟨_, a0, a1, a2, a3, a4, a5⟩ := HBX2.out
    have hFW : Calls Try.prog 19 #[.slice (some ⟨W2.heap.size, 0, none⟩) 14 14] (W2.alloc (.cells #[.int .i64 (sz : Int), .int .i64 4, .int .i64 0, .int .i64 4, .int .i64 (bg : Int), .int .i64 4, .int .i64 40, .int .i64 4, .int .i64 (Wd : Int), .int .i64 4, .int .i64 (Hi : Int), .int .i64 4, .int .i64 1, .int .i64 2, .int .i64 (D : Int), .int .i64 2, .int .i64 0, .int .i64 4, .int .i64 (dn : Int), .int .i64 4, .int .i64 0, .int .i64 4, .int .i64 0, .int .i64 4, .int .i64 (cn : Int), .int .i64 4, .int .i64 0, .int .i64 4] 39)) fun e w'' => e = .returned (.string ⟨T1.toArray⟩) ∧ Below (W2.alloc (.cells #[.int .i64 (sz : Int), .int .i64 4, .int .i64 0, .int .i64 4, .int .i64 (bg : Int), .int .i64 4, .int .i64 40, .int .i64 4, .int .i64 (Wd : Int), .int .i64 4, .int .i64 (Hi : Int), .int .i64 4, .int .i64 1, .int .i64 2, .int .i64 (D : Int), .int .i64 2, .int .i64 0, .int .i64 4, .int .i64 (dn : Int), .int .i64 4, .int .i64 0, .int .i64 4, .int .i64 0, .int .i64 4, .int .i64 (cn : Int), .int .i64 4, .int .i64 0, .int .i64 4] 39)).heap.size (W2.alloc (.cells #[.int .i64 (sz : Int), .int .i64 4, .int .i64 0, .int .i64 4, .int .i64 (bg : Int), .int .i64 4, .int .i64 40, .int .i64 4, .int .i64 (Wd : Int), .int .i64 4, .int .i64 (Hi : Int), .int .i64 4, .int .i64 1, .int .i64 2, .int .i64 (D : Int), .int .i64 2, .int .i64 0, .int .i64 4, .int .i64 (dn : Int), .int .i64 4, .int .i64 0, .int .i64 4, .int .i64 0, .int .i64 4, .int .i64 (cn : Int), .int .i64 4, .int .i64 0, .int .i64 4] 39)) w'' := HFT.out W2.heap.size (W2.alloc (.cells (fieldsV [((sz : Int), 4), (0, 4), ((bg : Int), 4), (40, 4), ((Wd : Int), 4), ((Hi : Int), 4), (1, 2), ((D : Int), 2), (0, 4), ((dn : Int), 4), (0, 4), (0, 4), ((cn : Int), 4), (0, 4)]).toArray 39)) (bits2_new W2 _ _)
    have HFW : Hid _ := hFW
    clear hFW HFT
    rw [HST.out] at *
    go_wp2_with fail
    refine (show Calls _ _ _ _ _ from HFW.out).mono ?_
    rintro e W4 ⟨rfl, b4⟩
    have b24 : Below W2.heap.size W2 W4 := ((Below.refl _ _).alloc (Nat.le_refl _) _).trans (b4.mono (by simp))
    have HB4 : Hid (Below w.heap.size w W4) := HB2.out.trans (b24.mono HB2.out.size)
    have HBX4 : Hid (Bx W4 w.heap.size (.int .i64 k) (.int .i64 (D : Int)) (.int .i64 (Wd : Int)) (.int .i64 (Hi : Int)) (.slice ca cn cc) (.slice pa pn pc)) := HBX2.out.kept b24
    clear b24 b4 HFW HB2 HBX2 a0 a1 a2 a3 a4 a5
    obtain ⟨_, a0, a1, a2, a3, a4, a5⟩ := HBX4.out
    go_wp2_with fail
    refine (HNT.out _ HB4.out).mono ?_
    rintro e W5 ⟨rfl, b5⟩
    have HB5 : Hid (Below w.heap.size w W5) := HB4.out.trans (b5.mono HB4.out.size)
    clear b5 HB4 HBX4 HNT a0 a1 a2 a3 a4 a5
    go_wp2_with fail
    go_ret
    exact ⟨by rw [← HAPP.out]; rfl, HB5.out⟩
  | true =>
    obtain rfl : pk = 1 := HPK.out
    obtain rfl : k = 4 := HR4.out rfl
    clear HPK HR4
    go_wp2_with fail
    refine (HBD.out _ HB1.out).mono ?_
    rintro e W2 ⟨rfl, b2⟩
    have HB2 : Hid (Below w.heap.size w W2) := HB1.out.trans (b2.mono HB1.out.size)
    have HBX2 : Hid (Bx W2 w.heap.size (.int .i64 4) (.int .i64 (D : Int)) (.int .i64 (Wd : Int)) (.int .i64 (Hi : Int)) (.slice ca cn cc) (.slice pa pn pc)) := HBX1.out.kept b2
    clear b2 HB1 HBX1 HBD a0 a1 a2 a3 a4 a5
    obtain ⟨_, a0, a1, a2, a3, a4, a5⟩ := HBX2.out
    have hFW : Calls Try.prog 19 #[.slice (some ⟨W2.heap.size, 0, none⟩) 14 14] (W2.alloc (.cells #[.int .i64 (sz : Int), .int .i64 4, .int .i64 0, .int .i64 4, .int .i64 (bg : Int), .int .i64 4, .int .i64 40, .int .i64 4, .int .i64 (Wd : Int), .int .i64 4, .int .i64 (Hi : Int), .int .i64 4, .int .i64 1, .int .i64 2, .int .i64 (D : Int), .int .i64 2, .int .i64 1, .int .i64 4, .int .i64 (dn : Int), .int .i64 4, .int .i64 0, .int .i64 4, .int .i64 0, .int .i64 4, .int .i64 (cn : Int), .int .i64 4, .int .i64 0, .int .i64 4] 39)) fun e w'' => e = .returned (.string ⟨T1.toArray⟩) ∧ Below (W2.alloc (.cells #[.int .i64 (sz : Int), .int .i64 4, .int .i64 0, .int .i64 4, .int .i64 (bg : Int), .int .i64 4, .int .i64 40, .int .i64 4, .int .i64 (Wd : Int), .int .i64 4, .int .i64 (Hi : Int), .int .i64 4, .int .i64 1, .int .i64 2, .int .i64 (D : Int), .int .i64 2, .int .i64 1, .int .i64 4, .int .i64 (dn : Int), .int .i64 4, .int .i64 0, .int .i64 4, .int .i64 0, .int .i64 4, .int .i64 (cn : Int), .int .i64 4, .int .i64 0, .int .i64 4] 39)).heap.size (W2.alloc (.cells #[.int .i64 (sz : Int), .int .i64 4, .int .i64 0, .int .i64 4, .int .i64 (bg : Int), .int .i64 4, .int .i64 40, .int .i64 4, .int .i64 (Wd : Int), .int .i64 4, .int .i64 (Hi : Int), .int .i64 4, .int .i64 1, .int .i64 2, .int .i64 (D : Int), .int .i64 2, .int .i64 1, .int .i64 4, .int .i64 (dn : Int), .int .i64 4, .int .i64 0, .int .i64 4, .int .i64 0, .int .i64 4, .int .i64 (cn : Int), .int .i64 4, .int .i64 0, .int .i64 4] 39)) w'' := HFT.out W2.heap.size (W2.alloc (.cells (fieldsV [((sz : Int), 4), (0, 4), ((bg : Int), 4), (40, 4), ((Wd : Int), 4), ((Hi : Int), 4), (1, 2), ((D : Int), 2), (1, 4), ((dn : Int), 4), (0, 4), (0, 4), ((cn : Int), 4), (0, 4)]).toArray 39)) (bits2_new W2 _ _)
    have HFW : Hid _ := hFW
    clear hFW HFT
    rw [HST.out] at *
    go_wp2_with fail
    refine (show Calls _ _ _ _ _ from HFW.out).mono ?_
    rintro e W4 ⟨rfl, b4⟩
    have b24 : Below W2.heap.size W2 W4 := ((Below.refl _ _).alloc (Nat.le_refl _) _).trans (b4.mono (by simp))
    have HB4 : Hid (Below w.heap.size w W4) := HB2.out.trans (b24.mono HB2.out.size)
    have HBX4 : Hid (Bx W4 w.heap.size (.int .i64 4) (.int .i64 (D : Int)) (.int .i64 (Wd : Int)) (.int .i64 (Hi : Int)) (.slice ca cn cc) (.slice pa pn pc)) := HBX2.out.kept b24
    clear b24 b4 HFW HB2 HBX2 a0 a1 a2 a3 a4 a5
    obtain ⟨_, a0, a1, a2, a3, a4, a5⟩ := HBX4.out
    go_wp2_with fail
    refine (HNT.out _ HB4.out).mono ?_
    rintro e W5 ⟨rfl, b5⟩
    have HB5 : Hid (Below w.heap.size w W5) := HB4.out.trans (b5.mono HB4.out.size)
    clear b5 HB4 HBX4 HNT a0 a1 a2 a3 a4 a5
    go_wp2_with fail
    go_ret
    exact ⟨by rw [← HAPP.out]; rfl, HB5.out⟩
end Go.Proofs.Ytcgmmpfckmhahaa

/- BmpPut of the specification. -/
namespace Go.Proofs.Ytcgmmpfckmhahaa
open Go.RowKit

set_option maxHeartbeats 1000000 in
theorem l11Rep_any (k d wd hi : Int) (ca : Option Addr) (cn cc : Nat) (pa : Option Addr) (pn pc : Nat) (runs : Bool) (w : World) :
    Calls Try.prog 14 #[.agg #[.int .i64 k, .int .i64 d, .int .i64 wd, .int .i64 hi, .slice ca cn cc, .slice pa pn pc], .bool runs] w fun e w' => e = .returned (.bool (Bm.rep k d runs)) ∧ Below w.heap.size w w' := by
  have hB0 : Below w.heap.size w (w.alloc (.cells #[.int .i64 k, .int .i64 d, .int .i64 wd, .int .i64 hi, .slice ca cn cc, .slice pa pn pc] 27)) := (Below.refl _ _).alloc (Nat.le_refl _) _
  obtain ⟨_, a0, a1, a2, a3, a4, a5⟩ := bx_new w (.int .i64 k) (.int .i64 d) (.int .i64 wd) (.int .i64 hi) (.slice ca cn cc) (.slice pa pn pc) 27
  by_cases h2 : k = 2
  · have h24 : ¬ k = 4 := by omega
    cases runs with
    | false =>
      have HE : Hid (Bm.rep k d false = true) := by show _ = _; unfold Bm.rep; simp [h2]
      subst h2
      go_enter Try.func14, Try.ntmps14
      go_wp2_with fail
      go_ret
      exact ⟨by rw [HE.out]; rfl, hB0⟩
    | true =>
      have HE : Hid (Bm.rep k d true = false) := by show _ = _; unfold Bm.rep; simp [h24]
      subst h2
      go_enter Try.func14, Try.ntmps14
      go_wp2_with fail
      go_ret
      exact ⟨by rw [HE.out]; rfl, hB0⟩
  · have h2b : (k == 2) = false := beq_eq_false_iff_ne.2 h2
    by_cases h4 : k = 4
    · by_cases h8 : d = 8
      · have HE : Hid (Bm.rep k d runs = true) := by show _ = _; unfold Bm.rep; simp [h4, h8]
        subst h4
        subst h8
        go_enter Try.func14, Try.ntmps14
        go_wp2_with fail
        go_ret
        exact ⟨by rw [HE.out]; rfl, hB0⟩
      · have HE : Hid (Bm.rep k d runs = false) := by show _ = _; unfold Bm.rep; simp [h4, h8]
        have h8b : (d == 8) = false := beq_eq_false_iff_ne.2 h8
        subst h4
        go_enter Try.func14, Try.ntmps14
        go_wp2_with fail
        go_ret
        exact ⟨by rw [HE.out]; rfl, hB0⟩
    · have HE : Hid (Bm.rep k d runs = false) := by show _ = _; unfold Bm.rep; simp [h4, h2]
      have h4b : (k == 4) = false := beq_eq_false_iff_ne.2 h4
      go_enter Try.func14, Try.ntmps14
      go_wp2_with fail
      go_ret
      exact ⟨by rw [HE.out]; rfl, hB0⟩

set_option maxHeartbeats 1000000 in
theorem spec_bmp (k d wd hi : Int) (ca : Option Addr) (cn cc : Nat) (pa : Option Addr) (pn pc : Nat) (ok : Bool) (T : ByteArray) (runs : Bool) (w : World)
    (hO : ∀ w', Below w.heap.size w w' → Calls Try.prog 13 #[.agg #[.int .i64 k, .int .i64 d, .int .i64 wd, .int .i64 hi, .slice ca cn cc, .slice pa pn pc]] w' fun e w'' => e = .returned (.bool ok) ∧ Below w'.heap.size w' w'')
    (hL : (ok && Bm.rep k d runs) = true → ∀ w', Below w.heap.size w w' → Calls Try.prog 15 #[.agg #[.int .i64 k, .int .i64 d, .int .i64 wd, .int .i64 hi, .slice ca cn cc, .slice pa pn pc], .bool runs] w' fun e w'' => e = .returned (.string T) ∧ Below w'.heap.size w' w'')
    (hE : (ok && Bm.rep k d runs) = false → T = ⟨#[]⟩) :
    Calls Try.prog 6 #[.agg #[.int .i64 k, .int .i64 d, .int .i64 wd, .int .i64 hi, .slice ca cn cc, .slice pa pn pc], .bool runs] w fun e w' => e = .returned (.string T) ∧ Below w.heap.size w w' := by
  have hB0 : Below w.heap.size w (w.alloc (.cells #[.int .i64 k, .int .i64 d, .int .i64 wd, .int .i64 hi, .slice ca cn cc, .slice pa pn pc] 27)) := (Below.refl _ _).alloc (Nat.le_refl _) _
  have HA : Hid (Bx (w.alloc (.cells #[.int .i64 k, .int .i64 d, .int .i64 wd, .int .i64 hi, .slice ca cn cc, .slice pa pn pc] 27)) w.heap.size (.int .i64 k) (.int .i64 d) (.int .i64 wd) (.int .i64 hi) (.slice ca cn cc) (.slice pa pn pc)) := bx_new w _ _ _ _ _ _ 27
  have HO := hO _ hB0
  have HO' : Hid _ := HO
  have HL : Hid ((ok && Bm.rep k d runs) = true → ∀ w', Below w.heap.size w w' → Calls Try.prog 15 #[.agg #[.int .i64 k, .int .i64 d, .int .i64 wd, .int .i64 hi, .slice ca cn cc, .slice pa pn pc], .bool runs] w' fun e w'' => e = .returned (.string T) ∧ Below w'.heap.size w' w'') := hL
  have HE : Hid ((ok && Bm.rep k d runs) = false → T = ⟨#[]⟩) := hE
  have HR : Hid (∀ w' : World, Calls Try.prog 14 #[.agg #[.int .i64 k, .int .i64 d, .int .i64 wd, .int .i64 hi, .slice ca cn cc, .slice pa pn pc], .bool runs] w' fun e w'' => e = .returned (.bool (Bm.rep k d runs)) ∧ Below w'.heap.size w' w'') := fun w' => l11Rep_any k d wd hi ca cn cc pa pn pc runs w'
  clear hO HO hL hE
  generalize Bm.rep k d runs = rp at *
  go_enter Try.func6, Try.ntmps6
  go_wp2_with fail
  refine (show Calls _ _ _ _ _ from HO'.out).mono ?_
  rintro e w1 ⟨rfl, b1⟩
  have bel1 := hB0.trans (b1.mono hB0.size)
  have HA1 : Hid (Bx w1 w.heap.size (.int .i64 k) (.int .i64 d) (.int .i64 wd) (.int .i64 hi) (.slice ca cn cc) (.slice pa pn pc)) := HA.out.kept b1
  obtain ⟨_, a0, a1, a2, a3, a4, a5⟩ := HA1.out
  clear b1 hB0 HO' HA
  cases ok with
  | false =>
    have hT := HE.out rfl
    subst hT
    clear HL HE HR
    go_wp2_with fail
    go_ret
    exact ⟨rfl, bel1⟩
  | true =>
    go_wp2_with fail
    refine (HR.out _).mono ?_
    rintro e w2 ⟨rfl, b2⟩
    have bel2 := bel1.trans (b2.mono bel1.size)
    obtain ⟨_, c0, c1, c2, c3, c4, c5⟩ := HA1.out.kept b2
    clear b2 HR a0 a1 a2 a3 a4 a5 HA1
    cases rp with
    | false =>
      have hT := HE.out rfl
      subst hT
      clear HL HE
      go_wp2_with fail
      go_ret
      exact ⟨rfl, bel2⟩
    | true =>
      have HL2 := HL.out rfl w2 bel2
      have HL3 : Hid _ := HL2
      clear HL2 HL HE
      go_wp2_with fail
      refine (show Calls _ _ _ _ _ from HL3.out).mono ?_
      rintro e w3 ⟨rfl, b3⟩
      have bel3 := bel2.trans (b3.mono bel2.size)
      clear b3 HL3
      go_wp2_with fail
      go_ret
      exact ⟨rfl, bel3⟩

set_option linter.unusedSimpArgs false in
set_option maxHeartbeats 4000000 in
set_option maxRecDepth 20000 in
theorem spec_l11Bmp_core (k : Int) (D Wd Hi fr : Nat) (ca : Option Addr) (cn cc : Nat) (pa : Option Addr) (pn pc : Nat) (T0 T2 T3 : List UInt8) (rws : List (List Int)) (runs : Bool) (w : World) (hcl : cn ≤ 256) (hW : Wd ≤ 20) (hH : Hi ≤ 20) (hD : D ≤ 32) (hfr : fr = if runs then 1 else 0)
    (hLR : ∀ w' : World, Below w.heap.size w w' → Calls Try.prog 35 #[.agg #[.int .i64 k, .int .i64 (D : Int), .int .i64 (Wd : Int), .int .i64 (Hi : Int), .slice ca cn cc, .slice pa pn pc]] w' fun e w'' => e = .returned (.string ⟨T0.toArray⟩) ∧ Below w'.heap.size w' w'')
    (hLB : ∀ w' : World, Below w.heap.size w w' → Calls Try.prog 37 #[.agg #[.int .i64 k, .int .i64 (D : Int), .int .i64 (Wd : Int), .int .i64 (Hi : Int), .slice ca cn cc, .slice pa pn pc]] w' fun e w'' => (∃ a cap, e = .returned (.slice a Hi cap) ∧ Rows2 w'' a rws) ∧ Below w'.heap.size w' w'')
    (hRP : runs = true → ∀ (a : Option Addr) (cap : Nat) (w' : World), Rows2 w' a rws → Calls Try.prog 36 #[.slice a Hi cap] w' fun e w'' => e = .returned (.string ⟨T3.toArray⟩) ∧ Below w'.heap.size w' w'')
    (h03 : runs = false → T0 = T3)
    (hCO : ∀ w' : World, Below w.heap.size w w' → Calls Try.prog 40 #[.slice ca cn cc, .int .i64 4] w' fun e w'' => e = .returned (.string ⟨T2.toArray⟩) ∧ Below w'.heap.size w' w'')
    (n2 : T2.length ≤ 1024) (n3 : T3.length ≤ 5000) :
    Calls Try.prog 15 #[.agg #[.int .i64 k, .int .i64 (D : Int), .int .i64 (Wd : Int), .int .i64 (Hi : Int), .slice ca cn cc, .slice pa pn pc], .bool runs] w fun e w' => e = .returned (.string ⟨([66, 77] ++ Tg.txt (Bm.head D Wd Hi cn T3.length runs) ++ T2 ++ T3).toArray⟩) ∧ Below w.heap.size w w' := by
  have hB0 : Below w.heap.size w (w.alloc (.cells #[.int .i64 k, .int .i64 (D : Int), .int .i64 (Wd : Int), .int .i64 (Hi : Int), .slice ca cn cc, .slice pa pn pc] 27)) := (Below.refl _ _).alloc (Nat.le_refl _) _
  have HS0 : Hid (BxS w (w.alloc (.cells #[.int .i64 k, .int .i64 (D : Int), .int .i64 (Wd : Int), .int .i64 (Hi : Int), .slice ca cn cc, .slice pa pn pc] 27)) (.int .i64 k) (.int .i64 (D : Int)) (.int .i64 (Wd : Int)) (.int .i64 (Hi : Int)) (.slice ca cn cc) (.slice pa pn pc)) := ⟨bx_new w _ _ _ _ _ _ 27, hB0⟩
  have HLR : Hid (∀ w' : World, Below w.heap.size w w' → Calls Try.prog 35 #[.agg #[.int .i64 k, .int .i64 (D : Int), .int .i64 (Wd : Int), .int .i64 (Hi : Int), .slice ca cn cc, .slice pa pn pc]] w' fun e w'' => e = .returned (.string ⟨T0.toArray⟩) ∧ Below w'.heap.size w' w'') := hLR
  have HLB : Hid (∀ w' : World, Below w.heap.size w w' → Calls Try.prog 37 #[.agg #[.int .i64 k, .int .i64 (D : Int), .int .i64 (Wd : Int), .int .i64 (Hi : Int), .slice ca cn cc, .slice pa pn pc]] w' fun e w'' => (∃ a cap, e = .returned (.slice a Hi cap) ∧ Rows2 w'' a rws) ∧ Below w'.heap.size w' w'') := hLB
  have HRP : Hid (runs = true → ∀ (a : Option Addr) (cap : Nat) (w' : World), Rows2 w' a rws → Calls Try.prog 36 #[.slice a Hi cap] w' fun e w'' => e = .returned (.string ⟨T3.toArray⟩) ∧ Below w'.heap.size w' w'') := hRP
  have HCO : Hid (∀ w' : World, Below w.heap.size w w' → Calls Try.prog 40 #[.slice ca cn cc, .int .i64 4] w' fun e w'' => e = .returned (.string ⟨T2.toArray⟩) ∧ Below w'.heap.size w' w'') := hCO
  have H03 : Hid (runs = false → T0 = T3) := h03
  have hfb : fr ≤ 1 := by rw [hfr]; split <;> omega
  have HFL : Hid (∀ w' : World, Calls Try.prog 39 #[.bool runs] w' fun e w'' => e = .returned (.int .i64 (fr : Int)) ∧ Below w'.heap.size w' w'') := fun w' => (l9Flag_any runs w').mono (fun e w'' h => ⟨by rw [h.1, hfr]; cases runs <;> rfl, by rw [h.2]; exact Below.refl _ _⟩)
  obtain ⟨dn, hdn⟩ : ∃ dn, T3.length = dn := ⟨_, rfl⟩
  obtain ⟨c4, hc4⟩ : ∃ c4, c4 = 4 * cn := ⟨_, rfl⟩
  obtain ⟨bg, hbg⟩ : ∃ bg, bg = 54 + c4 := ⟨_, rfl⟩
  obtain ⟨sz, hsz⟩ : ∃ sz, sz = bg + dn := ⟨_, rfl⟩
  have e1 : 4 * (cn : Int) = (c4 : Int) := by omega
  have e2 : 54 + (c4 : Int) = (bg : Int) := by omega
  have e3 : (bg : Int) + (dn : Int) = (sz : Int) := by omega
  have hc4b : c4 ≤ 1024 := by omega
  have hbgb : bg ≤ 2000 := by omega
  have hszb : sz ≤ 8000 := by omega
  have hdnb : dn ≤ 5000 := by omega
  obtain ⟨pa1, hpa1⟩ : ∃ X, X = Pt.low sz 4 := ⟨_, rfl⟩
  have lpa1 : pa1.length ≤ 4 := by rw [hpa1, Pt.low_len]; omega
  have HNpa1 : Hid (∀ w' : World, Calls Try.prog 38 #[.int .i64 (sz : Int), .int .i64 4, .bool false] w' fun e w'' => e = .returned (.string ⟨pa1.toArray⟩) ∧ Below w'.heap.size w' w'') := fun w' => by rw [hpa1]; exact l1Num_low sz 4 w' (by omega) (by omega)
  obtain ⟨p04, hp04⟩ : ∃ X, X = Pt.low 0 4 := ⟨_, rfl⟩
  have lp04 : p04.length ≤ 4 := by rw [hp04, Pt.low_len]; omega
  have HNp04 : Hid (∀ w' : World, Calls Try.prog 38 #[.int .i64 0, .int .i64 4, .bool false] w' fun e w'' => e = .returned (.string ⟨p04.toArray⟩) ∧ Below w'.heap.size w' w'') := fun w' => by rw [hp04]; exact l1Num_low 0 4 w' (by omega) (by omega)
  obtain ⟨pa2, hpa2⟩ : ∃ X, X = Pt.low bg 4 := ⟨_, rfl⟩
  have lpa2 : pa2.length ≤ 4 := by rw [hpa2, Pt.low_len]; omega
  have HNpa2 : Hid (∀ w' : World, Calls Try.prog 38 #[.int .i64 (bg : Int), .int .i64 4, .bool false] w' fun e w'' => e = .returned (.string ⟨pa2.toArray⟩) ∧ Below w'.heap.size w' w'') := fun w' => by rw [hpa2]; exact l1Num_low bg 4 w' (by omega) (by omega)
  obtain ⟨p40, hp40⟩ : ∃ X, X = Pt.low 40 4 := ⟨_, rfl⟩
  have lp40 : p40.length ≤ 4 := by rw [hp40, Pt.low_len]; omega
  have HNp40 : Hid (∀ w' : World, Calls Try.prog 38 #[.int .i64 40, .int .i64 4, .bool false] w' fun e w'' => e = .returned (.string ⟨p40.toArray⟩) ∧ Below w'.heap.size w' w'') := fun w' => by rw [hp40]; exact l1Num_low 40 4 w' (by omega) (by omega)
  obtain ⟨pw, hpw⟩ : ∃ X, X = Pt.low Wd 4 := ⟨_, rfl⟩
  have lpw : pw.length ≤ 4 := by rw [hpw, Pt.low_len]; omega
  have HNpw : Hid (∀ w' : World, Calls Try.prog 38 #[.int .i64 (Wd : Int), .int .i64 4, .bool false] w' fun e w'' => e = .returned (.string ⟨pw.toArray⟩) ∧ Below w'.heap.size w' w'') := fun w' => by rw [hpw]; exact l1Num_low Wd 4 w' (by omega) (by omega)
  obtain ⟨ph, hph⟩ : ∃ X, X = Pt.low Hi 4 := ⟨_, rfl⟩
  have lph : ph.length ≤ 4 := by rw [hph, Pt.low_len]; omega
  have HNph : Hid (∀ w' : World, Calls Try.prog 38 #[.int .i64 (Hi : Int), .int .i64 4, .bool false] w' fun e w'' => e = .returned (.string ⟨ph.toArray⟩) ∧ Below w'.heap.size w' w'') := fun w' => by rw [hph]; exact l1Num_low Hi 4 w' (by omega) (by omega)
  obtain ⟨p12, hp12⟩ : ∃ X, X = Pt.low 1 2 := ⟨_, rfl⟩
  have lp12 : p12.length ≤ 4 := by rw [hp12, Pt.low_len]; omega
  have HNp12 : Hid (∀ w' : World, Calls Try.prog 38 #[.int .i64 1, .int .i64 2, .bool false] w' fun e w'' => e = .returned (.string ⟨p12.toArray⟩) ∧ Below w'.heap.size w' w'') := fun w' => by rw [hp12]; exact l1Num_low 1 2 w' (by omega) (by omega)
  obtain ⟨pd, hpd⟩ : ∃ X, X = Pt.low D 2 := ⟨_, rfl⟩
  have lpd : pd.length ≤ 4 := by rw [hpd, Pt.low_len]; omega
  have HNpd : Hid (∀ w' : World, Calls Try.prog 38 #[.int .i64 (D : Int), .int .i64 2, .bool false] w' fun e w'' => e = .returned (.string ⟨pd.toArray⟩) ∧ Below w'.heap.size w' w'') := fun w' => by rw [hpd]; exact l1Num_low D 2 w' (by omega) (by omega)
  obtain ⟨pf, hpf⟩ : ∃ X, X = Pt.low fr 4 := ⟨_, rfl⟩
  have lpf : pf.length ≤ 4 := by rw [hpf, Pt.low_len]; omega
  have HNpf : Hid (∀ w' : World, Calls Try.prog 38 #[.int .i64 (fr : Int), .int .i64 4, .bool false] w' fun e w'' => e = .returned (.string ⟨pf.toArray⟩) ∧ Below w'.heap.size w' w'') := fun w' => by rw [hpf]; exact l1Num_low fr 4 w' (by omega) (by omega)
  obtain ⟨pdn, hpdn⟩ : ∃ X, X = Pt.low dn 4 := ⟨_, rfl⟩
  have lpdn : pdn.length ≤ 4 := by rw [hpdn, Pt.low_len]; omega
  have HNpdn : Hid (∀ w' : World, Calls Try.prog 38 #[.int .i64 (dn : Int), .int .i64 4, .bool false] w' fun e w'' => e = .returned (.string ⟨pdn.toArray⟩) ∧ Below w'.heap.size w' w'') := fun w' => by rw [hpdn]; exact l1Num_low dn 4 w' (by omega) (by omega)
  obtain ⟨pcn, hpcn⟩ : ∃ X, X = Pt.low cn 4 := ⟨_, rfl⟩
  have lpcn : pcn.length ≤ 4 := by rw [hpcn, Pt.low_len]; omega
  have HNpcn : Hid (∀ w' : World, Calls Try.prog 38 #[.int .i64 (cn : Int), .int .i64 4, .bool false] w' fun e w'' => e = .returned (.string ⟨pcn.toArray⟩) ∧ Below w'.heap.size w' w'') := fun w' => by rw [hpcn]; exact l1Num_low cn 4 w' (by omega) (by omega)
  obtain ⟨X0, hX0⟩ : ∃ X : List UInt8, X = [66, 77] := ⟨_, rfl⟩
  have lX0 : X0.length ≤ 2 := by rw [hX0]; simp
  obtain ⟨E1, hE1⟩ : ∃ X, X = X0 ++ pa1 := ⟨_, rfl⟩
  have HE1 : Hid (E1 = X0 ++ pa1) := hE1
  have lE1 : E1.length ≤ 6 := by rw [hE1, List.length_append]; omega
  obtain ⟨E2, hE2⟩ : ∃ X, X = E1 ++ p04 := ⟨_, rfl⟩
  have HE2 : Hid (E2 = E1 ++ p04) := hE2
  have lE2 : E2.length ≤ 10 := by rw [hE2, List.length_append]; omega
  obtain ⟨E3, hE3⟩ : ∃ X, X = E2 ++ pa2 := ⟨_, rfl⟩
  have HE3 : Hid (E3 = E2 ++ pa2) := hE3
  have lE3 : E3.length ≤ 14 := by rw [hE3, List.length_append]; omega
  obtain ⟨C1, hC1⟩ : ∃ X, X = E3 ++ p40 := ⟨_, rfl⟩
  have HC1 : Hid (C1 = E3 ++ p40) := hC1
  have lC1 : C1.length ≤ 18 := by rw [hC1, List.length_append]; omega
  obtain ⟨C2, hC2⟩ : ∃ X, X = C1 ++ pw := ⟨_, rfl⟩
  have HC2 : Hid (C2 = C1 ++ pw) := hC2
  have lC2 : C2.length ≤ 22 := by rw [hC2, List.length_append]; omega
  obtain ⟨C3, hC3⟩ : ∃ X, X = C2 ++ ph := ⟨_, rfl⟩
  have HC3 : Hid (C3 = C2 ++ ph) := hC3
  have lC3 : C3.length ≤ 26 := by rw [hC3, List.length_append]; omega
  obtain ⟨C4, hC4⟩ : ∃ X, X = C3 ++ p12 := ⟨_, rfl⟩
  have HC4 : Hid (C4 = C3 ++ p12) := hC4
  have lC4 : C4.length ≤ 30 := by rw [hC4, List.length_append]; omega
  obtain ⟨C5, hC5⟩ : ∃ X, X = C4 ++ pd := ⟨_, rfl⟩
  have HC5 : Hid (C5 = C4 ++ pd) := hC5
  have lC5 : C5.length ≤ 34 := by rw [hC5, List.length_append]; omega
  obtain ⟨D1, hD1⟩ : ∃ X, X = C5 ++ pf := ⟨_, rfl⟩
  have HD1 : Hid (D1 = C5 ++ pf) := hD1
  have lD1 : D1.length ≤ 38 := by rw [hD1, List.length_append]; omega
  obtain ⟨D2, hD2⟩ : ∃ X, X = D1 ++ pdn := ⟨_, rfl⟩
  have HD2 : Hid (D2 = D1 ++ pdn) := hD2
  have lD2 : D2.length ≤ 42 := by rw [hD2, List.length_append]; omega
  obtain ⟨D3, hD3⟩ : ∃ X, X = D2 ++ p04 := ⟨_, rfl⟩
  have HD3 : Hid (D3 = D2 ++ p04) := hD3
  have lD3 : D3.length ≤ 46 := by rw [hD3, List.length_append]; omega
  obtain ⟨D4, hD4⟩ : ∃ X, X = D3 ++ p04 := ⟨_, rfl⟩
  have HD4 : Hid (D4 = D3 ++ p04) := hD4
  have lD4 : D4.length ≤ 50 := by rw [hD4, List.length_append]; omega
  obtain ⟨D5, hD5⟩ : ∃ X, X = D4 ++ pcn := ⟨_, rfl⟩
  have HD5 : Hid (D5 = D4 ++ pcn) := hD5
  have lD5 : D5.length ≤ 54 := by rw [hD5, List.length_append]; omega
  obtain ⟨D6, hD6⟩ : ∃ X, X = D5 ++ p04 := ⟨_, rfl⟩
  have HD6 : Hid (D6 = D5 ++ p04) := hD6
  have lD6 : D6.length ≤ 58 := by rw [hD6, List.length_append]; omega
  obtain ⟨D7, hD7⟩ : ∃ X, X = D6 ++ T2 := ⟨_, rfl⟩
  have HD7 : Hid (D7 = D6 ++ T2) := hD7
  have lD7 : D7.length ≤ 1200 := by rw [hD7, List.length_append]; omega
  obtain ⟨S3, hS3⟩ : ∃ S3 : ByteArray, S3 = ⟨T3.toArray⟩ := ⟨_, rfl⟩
  have hst : S3.size = dn := by rw [hS3, ← hdn]; simp [ByteArray.size]
  have HST : Hid (S3.size = dn) := hst
  have hS3b : S3.size ≤ 5000 := by rw [hst]; exact hdnb
  have HEE : Hid (ByteArray.mk #[66, 77] ++ ByteArray.mk pa1.toArray ++ ByteArray.mk p04.toArray ++ ByteArray.mk pa2.toArray = ByteArray.mk E3.toArray) := by
    show _ = _
    rw [show (#[66, 77] : Array UInt8) = ([66, 77] : List UInt8).toArray from rfl, ByteArray.mk_append_mk, ByteArray.mk_append_mk, ByteArray.mk_append_mk, hE3, hE2, hE1, hX0]
  obtain ⟨R, hR⟩ : ∃ R, R = ByteArray.mk ([66, 77] ++ Tg.txt (Bm.head D Wd Hi cn T3.length runs) ++ T2 ++ T3).toArray := ⟨_, rfl⟩
  rw [← hR]
  have HRR : Hid (ByteArray.mk D6.toArray ++ ByteArray.mk T2.toArray ++ S3 = R) := by
    show _ = _
    have ef : ((if runs then 1 else 0 : Int)).toNat = fr := by rw [hfr]; cases runs <;> rfl
    have eh : Tg.txt (Bm.head D Wd Hi cn T3.length runs) = Pt.low sz 4 ++ Pt.low 0 4 ++ Pt.low bg 4 ++ Pt.low 40 4 ++ Pt.low Wd 4 ++ Pt.low Hi 4 ++ Pt.low 1 2 ++ Pt.low D 2 ++ Pt.low fr 4 ++ Pt.low dn 4 ++ Pt.low 0 4 ++ Pt.low 0 4 ++ Pt.low cn 4 ++ Pt.low 0 4 := by
      unfold Tg.txt Bm.head
      rw [hdn, ← hc4, ← hbg, ← hsz]
      simp only [List.flatMap_cons, List.flatMap_nil, Int.toNat_natCast, List.append_nil, ef]
      have t1 : (1 : Int).toNat = 1 := rfl
      have t2 : (2 : Int).toNat = 2 := rfl
      have t4 : (4 : Int).toNat = 4 := rfl
      have t0 : (0 : Int).toNat = 0 := rfl
      have t40 : (40 : Int).toNat = 40 := rfl
      rw [t0, t1, t2, t4, t40]
      simp only [List.append_assoc]
    rw [hS3, hR, ByteArray.mk_append_mk, ByteArray.mk_append_mk, eh, hD6, hD5, hD4, hD3, hD2, hD1, hC5, hC4, hC3, hC2, hC1, hE3, hE2, hE1, hX0, hpa1, hp04, hpa2, hp40, hpw, hph, hp12, hpd, hpf, hpdn, hpcn]
    simp only [List.append_assoc]
  have HT3 : Hid (S3 = ⟨T3.toArray⟩) := hS3
  clear hLR hLB hRP hCO h03 hfr hR hS3 hdn hc4 hbg hsz hst hX0 hpa1 hp04 hpa2 hp40 hpw hph hp12 hpd hpf hpdn hpcn hE1 hE2 hE3 hC1 hC2 hC3 hC4 hC5 hD1 hD2 hD3 hD4 hD5 hD6 hD7
  obtain ⟨⟨_, a0, a1, a2, a3, a4, a5⟩, _⟩ := HS0.out
  go_enter Try.func15, Try.ntmps15
  go_wp2_with fail
  refine (HLR.out _ hB0).mono ?_
  rintro e w1 ⟨rfl, b1⟩
  have HS1 : Hid (BxS w w1 (.int .i64 k) (.int .i64 (D : Int)) (.int .i64 (Wd : Int)) (.int .i64 (Hi : Int)) (.slice ca cn cc) (.slice pa pn pc)) := HS0.out.kept b1
  clear b1 hB0 HS0 HLR a0 a1 a2 a3 a4 a5
  cases runs with
  | false =>
    have h0 := H03.out rfl
    rw [h0, ← HT3.out]
    clear HRP HLB h0 H03
    have HSD := HS1
    clear HS1
    obtain ⟨⟨_, a0, a1, a2, a3, a4, a5⟩, hBl⟩ := HSD.out
    have hst := HST.out
    go_wp2_with fail
    refine (HNpa1.out _).mono ?_
    rintro e v1 ⟨rfl, c1⟩
    have HSa : Hid (BxS w v1 (.int .i64 k) (.int .i64 (D : Int)) (.int .i64 (Wd : Int)) (.int .i64 (Hi : Int)) (.slice ca cn cc) (.slice pa pn pc)) := HSD.out.kept c1
    clear c1 HSD a0 a1 a2 a3 a4 a5 hBl
    go_wp2_with fail
    refine (HNp04.out _).mono ?_
    rintro e v2 ⟨rfl, c2⟩
    have HSb : Hid (BxS w v2 (.int .i64 k) (.int .i64 (D : Int)) (.int .i64 (Wd : Int)) (.int .i64 (Hi : Int)) (.slice ca cn cc) (.slice pa pn pc)) := HSa.out.kept c2
    clear c2 HSa
    go_wp2_with fail
    refine (HNpa2.out _).mono ?_
    rintro e v3 ⟨rfl, c3⟩
    have HSc : Hid (BxS w v3 (.int .i64 k) (.int .i64 (D : Int)) (.int .i64 (Wd : Int)) (.int .i64 (Hi : Int)) (.slice ca cn cc) (.slice pa pn pc)) := HSb.out.kept c3
    clear c3 HSb
    go_wp2_with fail
    rw [HEE.out]
    refine wp_region_told (S := (fun wz => BxS w wz (.int .i64 k) (.int .i64 (D : Int)) (.int .i64 (Wd : Int)) (.int .i64 (Hi : Int)) (.slice ca cn cc) (.slice pa pn pc))) 17 74 [.is (.string ⟨E3.toArray⟩), .is (.string ⟨p40.toArray⟩), .is (.string ⟨C1.toArray⟩), .is (.pointer (some ⟨w.heap.size, 2, none⟩)), .is (.int .i64 (Wd : Int)), .is (.string ⟨pw.toArray⟩), .is (.string ⟨C2.toArray⟩), .is (.pointer (some ⟨w.heap.size, 3, none⟩)), .is (.int .i64 (Hi : Int)), .is (.string ⟨ph.toArray⟩), .is (.string ⟨C3.toArray⟩), .is (.string ⟨p12.toArray⟩), .is (.string ⟨C4.toArray⟩), .is (.pointer (some ⟨w.heap.size, 1, none⟩)), .is (.int .i64 (D : Int)), .is (.string ⟨pd.toArray⟩), .is (.string ⟨C5.toArray⟩)] (by kernel_rfl) (by kernel_rfl) (by rfl) (fun _ _ _ _ hd h => ⟨hd.trans h.1, h.2⟩) (fun vs => by simp only [puts, List.getElem?_toArray, List.getElem?_cons_succ, List.getElem?_cons_zero, Option.bind_some, Act.put, List.setIfInBounds_toArray, List.set_cons_zero, List.set_cons_succ]; exact rfl) (HSc.out.kept (Below.refl _ _).drew) ?_ ?_
    · refine TellsFrom.cons rfl (fun vs wz hS hd K hK => ?_) ?_
      · try dsimp only at hK ⊢
        try simp only [List.getElem_toArray, List.getElem_cons_succ, List.getElem_cons_zero, Act.put, List.setIfInBounds_toArray, List.set_cons_zero, List.set_cons_succ]
        obtain ⟨⟨_, s0, s1, s2, s3, s4, s5⟩, hBl⟩ := id hS
        go_simp
        exact hK.out _ _ hS (Below.refl _ _) rfl
      refine TellsFrom.cons rfl (fun vs wz hS hd K hK => ?_) ?_
      · try dsimp only at hK ⊢
        try simp only [List.getElem_toArray, List.getElem_cons_succ, List.getElem_cons_zero, Act.put, List.setIfInBounds_toArray, List.set_cons_zero, List.set_cons_succ]
        go_simp
        refine (HNp40.out _).mono ?_
        rintro e v1 ⟨rfl, b1⟩
        exact hK.out _ _ (hS.kept b1) b1 rfl
      refine TellsFrom.cons rfl (fun vs wz hS hd K hK => ?_) ?_
      · try dsimp only at hK ⊢
        have h0 : vs 0 = (.string ⟨E3.toArray⟩) := hd 0 (by kernel_rfl)
        generalize vs 0 = x0 at *
        subst h0
        have h1 : vs 1 = (.string ⟨p40.toArray⟩) := hd 1 (by kernel_rfl)
        generalize vs 1 = x1 at *
        subst h1
        try simp only [List.getElem_toArray, List.getElem_cons_succ, List.getElem_cons_zero, Act.put, List.setIfInBounds_toArray, List.set_cons_zero, List.set_cons_succ]
        have hlen : ¬ 9223372036854775807 < E3.length + p40.length := by omega
        go_simp
        exact hK.out _ _ hS (Below.refl _ _) (by first | (show Value.string ⟨(E3 ++ p40).toArray⟩ = .string ⟨C1.toArray⟩; rw [HC1.out]) | (show Value.string (⟨E3.toArray⟩ ++ ⟨p40.toArray⟩) = .string ⟨C1.toArray⟩; rw [HC1.out, ByteArray.mk_append_mk]))
      refine TellsFrom.cons rfl (fun vs wz hS hd K hK => ?_) ?_
      · try dsimp only at hK ⊢
        try simp only [List.getElem_toArray, List.getElem_cons_succ, List.getElem_cons_zero, Act.put, List.setIfInBounds_toArray, List.set_cons_zero, List.set_cons_succ]
        obtain ⟨⟨_, s0, s1, s2, s3, s4, s5⟩, hBl⟩ := id hS
        go_simp
        exact hK.out _ _ hS (Below.refl _ _) rfl
      refine TellsFrom.cons rfl (fun vs wz hS hd K hK => ?_) ?_
      · try dsimp only at hK ⊢
        have h3 : vs 3 = (.pointer (some ⟨w.heap.size, 2, none⟩)) := hd 3 (by kernel_rfl)
        generalize vs 3 = x3 at *
        subst h3
        try simp only [List.getElem_toArray, List.getElem_cons_succ, List.getElem_cons_zero, Act.put, List.setIfInBounds_toArray, List.set_cons_zero, List.set_cons_succ]
        obtain ⟨⟨_, s0, s1, s2, s3, s4, s5⟩, hBl⟩ := id hS
        go_simp
        exact hK.out _ _ hS (Below.refl _ _) rfl
      refine TellsFrom.cons rfl (fun vs wz hS hd K hK => ?_) ?_
      · try dsimp only at hK ⊢
        have h4 : vs 4 = (.int .i64 (Wd : Int)) := hd 4 (by kernel_rfl)
        generalize vs 4 = x4 at *
        subst h4
        try simp only [List.getElem_toArray, List.getElem_cons_succ, List.getElem_cons_zero, Act.put, List.setIfInBounds_toArray, List.set_cons_zero, List.set_cons_succ]
        go_simp
        refine (HNpw.out _).mono ?_
        rintro e v1 ⟨rfl, b1⟩
        exact hK.out _ _ (hS.kept b1) b1 rfl
      refine TellsFrom.cons rfl (fun vs wz hS hd K hK => ?_) ?_
      · try dsimp only at hK ⊢
        have h2 : vs 2 = (.string ⟨C1.toArray⟩) := hd 2 (by kernel_rfl)
        generalize vs 2 = x2 at *
        subst h2
        have h5 : vs 5 = (.string ⟨pw.toArray⟩) := hd 5 (by kernel_rfl)
        generalize vs 5 = x5 at *
        subst h5
        try simp only [List.getElem_toArray, List.getElem_cons_succ, List.getElem_cons_zero, Act.put, List.setIfInBounds_toArray, List.set_cons_zero, List.set_cons_succ]
        have hlen : ¬ 9223372036854775807 < C1.length + pw.length := by omega
        go_simp
        exact hK.out _ _ hS (Below.refl _ _) (by first | (show Value.string ⟨(C1 ++ pw).toArray⟩ = .string ⟨C2.toArray⟩; rw [HC2.out]) | (show Value.string (⟨C1.toArray⟩ ++ ⟨pw.toArray⟩) = .string ⟨C2.toArray⟩; rw [HC2.out, ByteArray.mk_append_mk]))
      refine TellsFrom.cons rfl (fun vs wz hS hd K hK => ?_) ?_
      · try dsimp only at hK ⊢
        try simp only [List.getElem_toArray, List.getElem_cons_succ, List.getElem_cons_zero, Act.put, List.setIfInBounds_toArray, List.set_cons_zero, List.set_cons_succ]
        obtain ⟨⟨_, s0, s1, s2, s3, s4, s5⟩, hBl⟩ := id hS
        go_simp
        exact hK.out _ _ hS (Below.refl _ _) rfl
      refine TellsFrom.cons rfl (fun vs wz hS hd K hK => ?_) ?_
      · try dsimp only at hK ⊢
        have h7 : vs 7 = (.pointer (some ⟨w.heap.size, 3, none⟩)) := hd 7 (by kernel_rfl)
        generalize vs 7 = x7 at *
        subst h7
        try simp only [List.getElem_toArray, List.getElem_cons_succ, List.getElem_cons_zero, Act.put, List.setIfInBounds_toArray, List.set_cons_zero, List.set_cons_succ]
        obtain ⟨⟨_, s0, s1, s2, s3, s4, s5⟩, hBl⟩ := id hS
        go_simp
        exact hK.out _ _ hS (Below.refl _ _) rfl
      refine TellsFrom.cons rfl (fun vs wz hS hd K hK => ?_) ?_
      · try dsimp only at hK ⊢
        have h8 : vs 8 = (.int .i64 (Hi : Int)) := hd 8 (by kernel_rfl)
        generalize vs 8 = x8 at *
        subst h8
        try simp only [List.getElem_toArray, List.getElem_cons_succ, List.getElem_cons_zero, Act.put, List.setIfInBounds_toArray, List.set_cons_zero, List.set_cons_succ]
        go_simp
        refine (HNph.out _).mono ?_
        rintro e v1 ⟨rfl, b1⟩
        exact hK.out _ _ (hS.kept b1) b1 rfl
      refine TellsFrom.cons rfl (fun vs wz hS hd K hK => ?_) ?_
      · try dsimp only at hK ⊢
        have h6 : vs 6 = (.string ⟨C2.toArray⟩) := hd 6 (by kernel_rfl)
        generalize vs 6 = x6 at *
        subst h6
        have h9 : vs 9 = (.string ⟨ph.toArray⟩) := hd 9 (by kernel_rfl)
        generalize vs 9 = x9 at *
        subst h9
        try simp only [List.getElem_toArray, List.getElem_cons_succ, List.getElem_cons_zero, Act.put, List.setIfInBounds_toArray, List.set_cons_zero, List.set_cons_succ]
        have hlen : ¬ 9223372036854775807 < C2.length + ph.length := by omega
        go_simp
        exact hK.out _ _ hS (Below.refl _ _) (by first | (show Value.string ⟨(C2 ++ ph).toArray⟩ = .string ⟨C3.toArray⟩; rw [HC3.out]) | (show Value.string (⟨C2.toArray⟩ ++ ⟨ph.toArray⟩) = .string ⟨C3.toArray⟩; rw [HC3.out, ByteArray.mk_append_mk]))
      refine TellsFrom.cons rfl (fun vs wz hS hd K hK => ?_) ?_
      · try dsimp only at hK ⊢
        try simp only [List.getElem_toArray, List.getElem_cons_succ, List.getElem_cons_zero, Act.put, List.setIfInBounds_toArray, List.set_cons_zero, List.set_cons_succ]
        go_simp
        refine (HNp12.out _).mono ?_
        rintro e v1 ⟨rfl, b1⟩
        exact hK.out _ _ (hS.kept b1) b1 rfl
      refine TellsFrom.cons rfl (fun vs wz hS hd K hK => ?_) ?_
      · try dsimp only at hK ⊢
        have h10 : vs 10 = (.string ⟨C3.toArray⟩) := hd 10 (by kernel_rfl)
        generalize vs 10 = x10 at *
        subst h10
        have h11 : vs 11 = (.string ⟨p12.toArray⟩) := hd 11 (by kernel_rfl)
        generalize vs 11 = x11 at *
        subst h11
        try simp only [List.getElem_toArray, List.getElem_cons_succ, List.getElem_cons_zero, Act.put, List.setIfInBounds_toArray, List.set_cons_zero, List.set_cons_succ]
        have hlen : ¬ 9223372036854775807 < C3.length + p12.length := by omega
        go_simp
        exact hK.out _ _ hS (Below.refl _ _) (by first | (show Value.string ⟨(C3 ++ p12).toArray⟩ = .string ⟨C4.toArray⟩; rw [HC4.out]) | (show Value.string (⟨C3.toArray⟩ ++ ⟨p12.toArray⟩) = .string ⟨C4.toArray⟩; rw [HC4.out, ByteArray.mk_append_mk]))
      refine TellsFrom.cons rfl (fun vs wz hS hd K hK => ?_) ?_
      · try dsimp only at hK ⊢
        try simp only [List.getElem_toArray, List.getElem_cons_succ, List.getElem_cons_zero, Act.put, List.setIfInBounds_toArray, List.set_cons_zero, List.set_cons_succ]
        obtain ⟨⟨_, s0, s1, s2, s3, s4, s5⟩, hBl⟩ := id hS
        go_simp
        exact hK.out _ _ hS (Below.refl _ _) rfl
      refine TellsFrom.cons rfl (fun vs wz hS hd K hK => ?_) ?_
      · try dsimp only at hK ⊢
        have h13 : vs 13 = (.pointer (some ⟨w.heap.size, 1, none⟩)) := hd 13 (by kernel_rfl)
        generalize vs 13 = x13 at *
        subst h13
        try simp only [List.getElem_toArray, List.getElem_cons_succ, List.getElem_cons_zero, Act.put, List.setIfInBounds_toArray, List.set_cons_zero, List.set_cons_succ]
        obtain ⟨⟨_, s0, s1, s2, s3, s4, s5⟩, hBl⟩ := id hS
        go_simp
        exact hK.out _ _ hS (Below.refl _ _) rfl
      refine TellsFrom.cons rfl (fun vs wz hS hd K hK => ?_) ?_
      · try dsimp only at hK ⊢
        have h14 : vs 14 = (.int .i64 (D : Int)) := hd 14 (by kernel_rfl)
        generalize vs 14 = x14 at *
        subst h14
        try simp only [List.getElem_toArray, List.getElem_cons_succ, List.getElem_cons_zero, Act.put, List.setIfInBounds_toArray, List.set_cons_zero, List.set_cons_succ]
        go_simp
        refine (HNpd.out _).mono ?_
        rintro e v1 ⟨rfl, b1⟩
        exact hK.out _ _ (hS.kept b1) b1 rfl
      refine TellsFrom.cons rfl (fun vs wz hS hd K hK => ?_) ?_
      · try dsimp only at hK ⊢
        have h12 : vs 12 = (.string ⟨C4.toArray⟩) := hd 12 (by kernel_rfl)
        generalize vs 12 = x12 at *
        subst h12
        have h15 : vs 15 = (.string ⟨pd.toArray⟩) := hd 15 (by kernel_rfl)
        generalize vs 15 = x15 at *
        subst h15
        try simp only [List.getElem_toArray, List.getElem_cons_succ, List.getElem_cons_zero, Act.put, List.setIfInBounds_toArray, List.set_cons_zero, List.set_cons_succ]
        have hlen : ¬ 9223372036854775807 < C4.length + pd.length := by omega
        go_simp
        exact hK.out _ _ hS (Below.refl _ _) (by first | (show Value.string ⟨(C4 ++ pd).toArray⟩ = .string ⟨C5.toArray⟩; rw [HC5.out]) | (show Value.string (⟨C4.toArray⟩ ++ ⟨pd.toArray⟩) = .string ⟨C5.toArray⟩; rw [HC5.out, ByteArray.mk_append_mk]))
      exact TellsFrom.nil
    · intro vs wz hS hd
      try dsimp only
      have h16 : vs 16 = .string ⟨C5.toArray⟩ := hd 16 (by omega)
      clear hd
      generalize vs 0 = y0 at *
      generalize vs 1 = y1 at *
      generalize vs 2 = y2 at *
      generalize vs 3 = y3 at *
      generalize vs 4 = y4 at *
      generalize vs 5 = y5 at *
      generalize vs 6 = y6 at *
      generalize vs 7 = y7 at *
      generalize vs 8 = y8 at *
      generalize vs 9 = y9 at *
      generalize vs 10 = y10 at *
      generalize vs 11 = y11 at *
      generalize vs 12 = y12 at *
      generalize vs 13 = y13 at *
      generalize vs 14 = y14 at *
      generalize vs 15 = y15 at *
      generalize vs 16 = y16 at *
      subst h16
      refine wpAnyH_take (i := 17) (v := .string ⟨C5.toArray⟩) rfl (by kernel_rfl) (by kernel_rfl) (by kernel_rfl) (fun _ _ _ h => h) (Or.inl ⟨by rfl, ?_⟩) trivial ?_
      · intro wy _
        go_simp
      refine wpAnyH_done (by kernel_rfl) ?_ _
      try simp only [List.getElem_toArray, List.getElem_cons_succ, List.getElem_cons_zero, Act.put, List.setIfInBounds_toArray, List.set_cons_zero, List.set_cons_succ]
      have HS8 : Hid (BxS w wz (.int .i64 k) (.int .i64 (D : Int)) (.int .i64 (Wd : Int)) (.int .i64 (Hi : Int)) (.slice ca cn cc) (.slice pa pn pc)) := hS
      clear hS HSc
      go_wp2_with fail
      refine wp_region_told (S := (fun wz => BxS w wz (.int .i64 k) (.int .i64 (D : Int)) (.int .i64 (Wd : Int)) (.int .i64 (Hi : Int)) (.slice ca cn cc) (.slice pa pn pc))) 20 74 [.is (.string ⟨C5.toArray⟩), .is (.bool false), .is (.int .i64 (fr : Int)), .is (.string ⟨pf.toArray⟩), .is (.string ⟨D1.toArray⟩), .is (.string S3), .is (.int .i64 (dn : Int)), .is (.string ⟨pdn.toArray⟩), .is (.string ⟨D2.toArray⟩), .is (.string ⟨p04.toArray⟩), .is (.string ⟨D3.toArray⟩), .is (.string ⟨p04.toArray⟩), .is (.string ⟨D4.toArray⟩), .is (.pointer (some ⟨w.heap.size, 4, none⟩)), .is (.slice ca cn cc), .is (.int .i64 (cn : Int)), .is (.string ⟨pcn.toArray⟩), .is (.string ⟨D5.toArray⟩), .is (.string ⟨p04.toArray⟩), .is (.string ⟨D6.toArray⟩)] (by kernel_rfl) (by kernel_rfl) (by rfl) (fun _ _ _ _ hd h => ⟨hd.trans h.1, h.2⟩) (fun vs => by simp only [puts, List.getElem?_toArray, List.getElem?_cons_succ, List.getElem?_cons_zero, Option.bind_some, Act.put, List.setIfInBounds_toArray, List.set_cons_zero, List.set_cons_succ]; exact rfl) (HS8.out.kept (Below.refl _ _).drew) ?_ ?_
      · refine TellsFrom.cons rfl (fun vs wz hS hd K hK => ?_) ?_
        · try dsimp only at hK ⊢
          try simp only [List.getElem_toArray, List.getElem_cons_succ, List.getElem_cons_zero, Act.put, List.setIfInBounds_toArray, List.set_cons_zero, List.set_cons_succ]
          obtain ⟨⟨_, s0, s1, s2, s3, s4, s5⟩, hBl⟩ := id hS
          go_simp
          exact hK.out _ _ hS (Below.refl _ _) rfl
        refine TellsFrom.cons rfl (fun vs wz hS hd K hK => ?_) ?_
        · try dsimp only at hK ⊢
          try simp only [List.getElem_toArray, List.getElem_cons_succ, List.getElem_cons_zero, Act.put, List.setIfInBounds_toArray, List.set_cons_zero, List.set_cons_succ]
          obtain ⟨⟨_, s0, s1, s2, s3, s4, s5⟩, hBl⟩ := id hS
          go_simp
          exact hK.out _ _ hS (Below.refl _ _) rfl
        refine TellsFrom.cons rfl (fun vs wz hS hd K hK => ?_) ?_
        · try dsimp only at hK ⊢
          have h1 : vs 1 = (.bool false) := hd 1 (by kernel_rfl)
          generalize vs 1 = x1 at *
          subst h1
          try simp only [List.getElem_toArray, List.getElem_cons_succ, List.getElem_cons_zero, Act.put, List.setIfInBounds_toArray, List.set_cons_zero, List.set_cons_succ]
          go_simp
          refine (HFL.out _).mono ?_
          rintro e v1 ⟨rfl, b1⟩
          exact hK.out _ _ (hS.kept b1) b1 rfl
        refine TellsFrom.cons rfl (fun vs wz hS hd K hK => ?_) ?_
        · try dsimp only at hK ⊢
          have h2 : vs 2 = (.int .i64 (fr : Int)) := hd 2 (by kernel_rfl)
          generalize vs 2 = x2 at *
          subst h2
          try simp only [List.getElem_toArray, List.getElem_cons_succ, List.getElem_cons_zero, Act.put, List.setIfInBounds_toArray, List.set_cons_zero, List.set_cons_succ]
          go_simp
          refine (HNpf.out _).mono ?_
          rintro e v1 ⟨rfl, b1⟩
          exact hK.out _ _ (hS.kept b1) b1 rfl
        refine TellsFrom.cons rfl (fun vs wz hS hd K hK => ?_) ?_
        · try dsimp only at hK ⊢
          have h0 : vs 0 = (.string ⟨C5.toArray⟩) := hd 0 (by kernel_rfl)
          generalize vs 0 = x0 at *
          subst h0
          have h3 : vs 3 = (.string ⟨pf.toArray⟩) := hd 3 (by kernel_rfl)
          generalize vs 3 = x3 at *
          subst h3
          try simp only [List.getElem_toArray, List.getElem_cons_succ, List.getElem_cons_zero, Act.put, List.setIfInBounds_toArray, List.set_cons_zero, List.set_cons_succ]
          have hlen : ¬ 9223372036854775807 < C5.length + pf.length := by omega
          go_simp
          exact hK.out _ _ hS (Below.refl _ _) (by first | (show Value.string ⟨(C5 ++ pf).toArray⟩ = .string ⟨D1.toArray⟩; rw [HD1.out]) | (show Value.string (⟨C5.toArray⟩ ++ ⟨pf.toArray⟩) = .string ⟨D1.toArray⟩; rw [HD1.out, ByteArray.mk_append_mk]))
        refine TellsFrom.cons rfl (fun vs wz hS hd K hK => ?_) ?_
        · try dsimp only at hK ⊢
          try simp only [List.getElem_toArray, List.getElem_cons_succ, List.getElem_cons_zero, Act.put, List.setIfInBounds_toArray, List.set_cons_zero, List.set_cons_succ]
          obtain ⟨⟨_, s0, s1, s2, s3, s4, s5⟩, hBl⟩ := id hS
          go_simp
          exact hK.out _ _ hS (Below.refl _ _) rfl
        refine TellsFrom.cons rfl (fun vs wz hS hd K hK => ?_) ?_
        · try dsimp only at hK ⊢
          have h5 : vs 5 = (.string S3) := hd 5 (by kernel_rfl)
          generalize vs 5 = x5 at *
          subst h5
          try simp only [List.getElem_toArray, List.getElem_cons_succ, List.getElem_cons_zero, Act.put, List.setIfInBounds_toArray, List.set_cons_zero, List.set_cons_succ]
          have hst := HST.out
          go_simp
          exact hK.out _ _ hS (Below.refl _ _) rfl
        refine TellsFrom.cons rfl (fun vs wz hS hd K hK => ?_) ?_
        · try dsimp only at hK ⊢
          have h6 : vs 6 = (.int .i64 (dn : Int)) := hd 6 (by kernel_rfl)
          generalize vs 6 = x6 at *
          subst h6
          try simp only [List.getElem_toArray, List.getElem_cons_succ, List.getElem_cons_zero, Act.put, List.setIfInBounds_toArray, List.set_cons_zero, List.set_cons_succ]
          go_simp
          refine (HNpdn.out _).mono ?_
          rintro e v1 ⟨rfl, b1⟩
          exact hK.out _ _ (hS.kept b1) b1 rfl
        refine TellsFrom.cons rfl (fun vs wz hS hd K hK => ?_) ?_
        · try dsimp only at hK ⊢
          have h4 : vs 4 = (.string ⟨D1.toArray⟩) := hd 4 (by kernel_rfl)
          generalize vs 4 = x4 at *
          subst h4
          have h7 : vs 7 = (.string ⟨pdn.toArray⟩) := hd 7 (by kernel_rfl)
          generalize vs 7 = x7 at *
          subst h7
          try simp only [List.getElem_toArray, List.getElem_cons_succ, List.getElem_cons_zero, Act.put, List.setIfInBounds_toArray, List.set_cons_zero, List.set_cons_succ]
          have hlen : ¬ 9223372036854775807 < D1.length + pdn.length := by omega
          go_simp
          exact hK.out _ _ hS (Below.refl _ _) (by first | (show Value.string ⟨(D1 ++ pdn).toArray⟩ = .string ⟨D2.toArray⟩; rw [HD2.out]) | (show Value.string (⟨D1.toArray⟩ ++ ⟨pdn.toArray⟩) = .string ⟨D2.toArray⟩; rw [HD2.out, ByteArray.mk_append_mk]))
        refine TellsFrom.cons rfl (fun vs wz hS hd K hK => ?_) ?_
        · try dsimp only at hK ⊢
          try simp only [List.getElem_toArray, List.getElem_cons_succ, List.getElem_cons_zero, Act.put, List.setIfInBounds_toArray, List.set_cons_zero, List.set_cons_succ]
          go_simp
          refine (HNp04.out _).mono ?_
          rintro e v1 ⟨rfl, b1⟩
          exact hK.out _ _ (hS.kept b1) b1 rfl
        refine TellsFrom.cons rfl (fun vs wz hS hd K hK => ?_) ?_
        · try dsimp only at hK ⊢
          have h8 : vs 8 = (.string ⟨D2.toArray⟩) := hd 8 (by kernel_rfl)
          generalize vs 8 = x8 at *
          subst h8
          have h9 : vs 9 = (.string ⟨p04.toArray⟩) := hd 9 (by kernel_rfl)
          generalize vs 9 = x9 at *
          subst h9
          try simp only [List.getElem_toArray, List.getElem_cons_succ, List.getElem_cons_zero, Act.put, List.setIfInBounds_toArray, List.set_cons_zero, List.set_cons_succ]
          have hlen : ¬ 9223372036854775807 < D2.length + p04.length := by omega
          go_simp
          exact hK.out _ _ hS (Below.refl _ _) (by first | (show Value.string ⟨(D2 ++ p04).toArray⟩ = .string ⟨D3.toArray⟩; rw [HD3.out]) | (show Value.string (⟨D2.toArray⟩ ++ ⟨p04.toArray⟩) = .string ⟨D3.toArray⟩; rw [HD3.out, ByteArray.mk_append_mk]))
        refine TellsFrom.cons rfl (fun vs wz hS hd K hK => ?_) ?_
        · try dsimp only at hK ⊢
          try simp only [List.getElem_toArray, List.getElem_cons_succ, List.getElem_cons_zero, Act.put, List.setIfInBounds_toArray, List.set_cons_zero, List.set_cons_succ]
          go_simp
          refine (HNp04.out _).mono ?_
          rintro e v1 ⟨rfl, b1⟩
          exact hK.out _ _ (hS.kept b1) b1 rfl
        refine TellsFrom.cons rfl (fun vs wz hS hd K hK => ?_) ?_
        · try dsimp only at hK ⊢
          have h10 : vs 10 = (.string ⟨D3.toArray⟩) := hd 10 (by kernel_rfl)
          generalize vs 10 = x10 at *
          subst h10
          have h11 : vs 11 = (.string ⟨p04.toArray⟩) := hd 11 (by kernel_rfl)
          generalize vs 11 = x11 at *
          subst h11
          try simp only [List.getElem_toArray, List.getElem_cons_succ, List.getElem_cons_zero, Act.put, List.setIfInBounds_toArray, List.set_cons_zero, List.set_cons_succ]
          have hlen : ¬ 9223372036854775807 < D3.length + p04.length := by omega
          go_simp
          exact hK.out _ _ hS (Below.refl _ _) (by first | (show Value.string ⟨(D3 ++ p04).toArray⟩ = .string ⟨D4.toArray⟩; rw [HD4.out]) | (show Value.string (⟨D3.toArray⟩ ++ ⟨p04.toArray⟩) = .string ⟨D4.toArray⟩; rw [HD4.out, ByteArray.mk_append_mk]))
        refine TellsFrom.cons rfl (fun vs wz hS hd K hK => ?_) ?_
        · try dsimp only at hK ⊢
          try simp only [List.getElem_toArray, List.getElem_cons_succ, List.getElem_cons_zero, Act.put, List.setIfInBounds_toArray, List.set_cons_zero, List.set_cons_succ]
          obtain ⟨⟨_, s0, s1, s2, s3, s4, s5⟩, hBl⟩ := id hS
          go_simp
          exact hK.out _ _ hS (Below.refl _ _) rfl
        refine TellsFrom.cons rfl (fun vs wz hS hd K hK => ?_) ?_
        · try dsimp only at hK ⊢
          have h13 : vs 13 = (.pointer (some ⟨w.heap.size, 4, none⟩)) := hd 13 (by kernel_rfl)
          generalize vs 13 = x13 at *
          subst h13
          try simp only [List.getElem_toArray, List.getElem_cons_succ, List.getElem_cons_zero, Act.put, List.setIfInBounds_toArray, List.set_cons_zero, List.set_cons_succ]
          obtain ⟨⟨_, s0, s1, s2, s3, s4, s5⟩, hBl⟩ := id hS
          go_simp
          exact hK.out _ _ hS (Below.refl _ _) rfl
        refine TellsFrom.cons rfl (fun vs wz hS hd K hK => ?_) ?_
        · try dsimp only at hK ⊢
          have h14 : vs 14 = (.slice ca cn cc) := hd 14 (by kernel_rfl)
          generalize vs 14 = x14 at *
          subst h14
          try simp only [List.getElem_toArray, List.getElem_cons_succ, List.getElem_cons_zero, Act.put, List.setIfInBounds_toArray, List.set_cons_zero, List.set_cons_succ]
          obtain ⟨⟨_, s0, s1, s2, s3, s4, s5⟩, hBl⟩ := id hS
          go_simp
          exact hK.out _ _ hS (Below.refl _ _) rfl
        refine TellsFrom.cons rfl (fun vs wz hS hd K hK => ?_) ?_
        · try dsimp only at hK ⊢
          have h15 : vs 15 = (.int .i64 (cn : Int)) := hd 15 (by kernel_rfl)
          generalize vs 15 = x15 at *
          subst h15
          try simp only [List.getElem_toArray, List.getElem_cons_succ, List.getElem_cons_zero, Act.put, List.setIfInBounds_toArray, List.set_cons_zero, List.set_cons_succ]
          go_simp
          refine (HNpcn.out _).mono ?_
          rintro e v1 ⟨rfl, b1⟩
          exact hK.out _ _ (hS.kept b1) b1 rfl
        refine TellsFrom.cons rfl (fun vs wz hS hd K hK => ?_) ?_
        · try dsimp only at hK ⊢
          have h12 : vs 12 = (.string ⟨D4.toArray⟩) := hd 12 (by kernel_rfl)
          generalize vs 12 = x12 at *
          subst h12
          have h16 : vs 16 = (.string ⟨pcn.toArray⟩) := hd 16 (by kernel_rfl)
          generalize vs 16 = x16 at *
          subst h16
          try simp only [List.getElem_toArray, List.getElem_cons_succ, List.getElem_cons_zero, Act.put, List.setIfInBounds_toArray, List.set_cons_zero, List.set_cons_succ]
          have hlen : ¬ 9223372036854775807 < D4.length + pcn.length := by omega
          go_simp
          exact hK.out _ _ hS (Below.refl _ _) (by first | (show Value.string ⟨(D4 ++ pcn).toArray⟩ = .string ⟨D5.toArray⟩; rw [HD5.out]) | (show Value.string (⟨D4.toArray⟩ ++ ⟨pcn.toArray⟩) = .string ⟨D5.toArray⟩; rw [HD5.out, ByteArray.mk_append_mk]))
        refine TellsFrom.cons rfl (fun vs wz hS hd K hK => ?_) ?_
        · try dsimp only at hK ⊢
          try simp only [List.getElem_toArray, List.getElem_cons_succ, List.getElem_cons_zero, Act.put, List.setIfInBounds_toArray, List.set_cons_zero, List.set_cons_succ]
          go_simp
          refine (HNp04.out _).mono ?_
          rintro e v1 ⟨rfl, b1⟩
          exact hK.out _ _ (hS.kept b1) b1 rfl
        refine TellsFrom.cons rfl (fun vs wz hS hd K hK => ?_) ?_
        · try dsimp only at hK ⊢
          have h17 : vs 17 = (.string ⟨D5.toArray⟩) := hd 17 (by kernel_rfl)
          generalize vs 17 = x17 at *
          subst h17
          have h18 : vs 18 = (.string ⟨p04.toArray⟩) := hd 18 (by kernel_rfl)
          generalize vs 18 = x18 at *
          subst h18
          try simp only [List.getElem_toArray, List.getElem_cons_succ, List.getElem_cons_zero, Act.put, List.setIfInBounds_toArray, List.set_cons_zero, List.set_cons_succ]
          have hlen : ¬ 9223372036854775807 < D5.length + p04.length := by omega
          go_simp
          exact hK.out _ _ hS (Below.refl _ _) (by first | (show Value.string ⟨(D5 ++ p04).toArray⟩ = .string ⟨D6.toArray⟩; rw [HD6.out]) | (show Value.string (⟨D5.toArray⟩ ++ ⟨p04.toArray⟩) = .string ⟨D6.toArray⟩; rw [HD6.out, ByteArray.mk_append_mk]))
        exact TellsFrom.nil
      · intro vs wz hS hd
        try dsimp only
        have h19 : vs 19 = .string ⟨D6.toArray⟩ := hd 19 (by omega)
        clear hd
        generalize vs 0 = y0 at *
        generalize vs 1 = y1 at *
        generalize vs 2 = y2 at *
        generalize vs 3 = y3 at *
        generalize vs 4 = y4 at *
        generalize vs 5 = y5 at *
        generalize vs 6 = y6 at *
        generalize vs 7 = y7 at *
        generalize vs 8 = y8 at *
        generalize vs 9 = y9 at *
        generalize vs 10 = y10 at *
        generalize vs 11 = y11 at *
        generalize vs 12 = y12 at *
        generalize vs 13 = y13 at *
        generalize vs 14 = y14 at *
        generalize vs 15 = y15 at *
        generalize vs 16 = y16 at *
        generalize vs 17 = y17 at *
        generalize vs 18 = y18 at *
        generalize vs 19 = y19 at *
        subst h19
        refine wpAnyH_take (i := 20) (v := .string ⟨D6.toArray⟩) rfl (by kernel_rfl) (by kernel_rfl) (by kernel_rfl) (fun _ _ _ h => h) (Or.inl ⟨by rfl, ?_⟩) trivial ?_
        · intro wy _
          go_simp
        refine wpAnyH_done (by kernel_rfl) ?_ _
        try simp only [List.getElem_toArray, List.getElem_cons_succ, List.getElem_cons_zero, Act.put, List.setIfInBounds_toArray, List.set_cons_zero, List.set_cons_succ]
        have HS9 : Hid (BxS w wz (.int .i64 k) (.int .i64 (D : Int)) (.int .i64 (Wd : Int)) (.int .i64 (Hi : Int)) (.slice ca cn cc) (.slice pa pn pc)) := hS
        clear hS HS8
        obtain ⟨⟨_, a0, a1, a2, a3, a4, a5⟩, hBl⟩ := HS9.out
        go_wp2_with fail
        refine (HCO.out _ hBl).mono ?_
        rintro e u1 ⟨rfl, d1⟩
        have HSe : Hid (Below w.heap.size w u1) := hBl.trans (d1.mono hBl.size)
        clear d1 a0 a1 a2 a3 a4 a5 hBl HS9
        have hln1 : ¬ 9223372036854775807 < D6.length + T2.length := by omega
        go_wp2_with fail
        go_ret
        exact ⟨by rw [← HRR.out]; rfl, HSe.out⟩
  | true =>
    obtain ⟨⟨_, a0, a1, a2, a3, a4, a5⟩, hBl⟩ := HS1.out
    go_wp2_with fail
    refine (HLB.out _ hBl).mono ?_
    rintro e w2 ⟨⟨y, cy, rfl, hy⟩, b2⟩
    have HS2 : Hid (BxS w w2 (.int .i64 k) (.int .i64 (D : Int)) (.int .i64 (Wd : Int)) (.int .i64 (Hi : Int)) (.slice ca cn cc) (.slice pa pn pc)) := HS1.out.kept b2
    have HQ := HRP.out trivial y cy w2 hy
    rw [← HT3.out] at HQ
    have HQ2 : Hid _ := HQ
    clear HQ HRP HLB b2 HS1 a0 a1 a2 a3 a4 a5 hBl hy H03
    go_wp2_with fail
    refine (show Calls _ _ _ _ _ from HQ2.out).mono ?_
    rintro e w3 ⟨rfl, b3⟩
    have HSD : Hid (BxS w w3 (.int .i64 k) (.int .i64 (D : Int)) (.int .i64 (Wd : Int)) (.int .i64 (Hi : Int)) (.slice ca cn cc) (.slice pa pn pc)) := HS2.out.kept b3
    clear b3 HS2 HQ2
    obtain ⟨⟨_, a0, a1, a2, a3, a4, a5⟩, hBl⟩ := HSD.out
    have hst := HST.out
    go_wp2_with fail
    refine (HNpa1.out _).mono ?_
    rintro e v1 ⟨rfl, c1⟩
    have HSa : Hid (BxS w v1 (.int .i64 k) (.int .i64 (D : Int)) (.int .i64 (Wd : Int)) (.int .i64 (Hi : Int)) (.slice ca cn cc) (.slice pa pn pc)) := HSD.out.kept c1
    clear c1 HSD a0 a1 a2 a3 a4 a5 hBl
    go_wp2_with fail
    refine (HNp04.out _).mono ?_
    rintro e v2 ⟨rfl, c2⟩
    have HSb : Hid (BxS w v2 (.int .i64 k) (.int .i64 (D : Int)) (.int .i64 (Wd : Int)) (.int .i64 (Hi : Int)) (.slice ca cn cc) (.slice pa pn pc)) := HSa.out.kept c2
    clear c2 HSa
    go_wp2_with fail
    refine (HNpa2.out _).mono ?_
    rintro e v3 ⟨rfl, c3⟩
    have HSc : Hid (BxS w v3 (.int .i64 k) (.int .i64 (D : Int)) (.int .i64 (Wd : Int)) (.int .i64 (Hi : Int)) (.slice ca cn cc) (.slice pa pn pc)) := HSb.out.kept c3
    clear c3 HSb
    go_wp2_with fail
    rw [HEE.out]
    refine wp_region_told (S := (fun wz => BxS w wz (.int .i64 k) (.int .i64 (D : Int)) (.int .i64 (Wd : Int)) (.int .i64 (Hi : Int)) (.slice ca cn cc) (.slice pa pn pc))) 17 74 [.is (.string ⟨E3.toArray⟩), .is (.string ⟨p40.toArray⟩), .is (.string ⟨C1.toArray⟩), .is (.pointer (some ⟨w.heap.size, 2, none⟩)), .is (.int .i64 (Wd : Int)), .is (.string ⟨pw.toArray⟩), .is (.string ⟨C2.toArray⟩), .is (.pointer (some ⟨w.heap.size, 3, none⟩)), .is (.int .i64 (Hi : Int)), .is (.string ⟨ph.toArray⟩), .is (.string ⟨C3.toArray⟩), .is (.string ⟨p12.toArray⟩), .is (.string ⟨C4.toArray⟩), .is (.pointer (some ⟨w.heap.size, 1, none⟩)), .is (.int .i64 (D : Int)), .is (.string ⟨pd.toArray⟩), .is (.string ⟨C5.toArray⟩)] (by kernel_rfl) (by kernel_rfl) (by rfl) (fun _ _ _ _ hd h => ⟨hd.trans h.1, h.2⟩) (fun vs => by simp only [puts, List.getElem?_toArray, List.getElem?_cons_succ, List.getElem?_cons_zero, Option.bind_some, Act.put, List.setIfInBounds_toArray, List.set_cons_zero, List.set_cons_succ]; exact rfl) (HSc.out.kept (Below.refl _ _).drew) ?_ ?_
    · refine TellsFrom.cons rfl (fun vs wz hS hd K hK => ?_) ?_
      · try dsimp only at hK ⊢
        try simp only [List.getElem_toArray, List.getElem_cons_succ, List.getElem_cons_zero, Act.put, List.setIfInBounds_toArray, List.set_cons_zero, List.set_cons_succ]
        obtain ⟨⟨_, s0, s1, s2, s3, s4, s5⟩, hBl⟩ := id hS
        go_simp
        exact hK.out _ _ hS (Below.refl _ _) rfl
      refine TellsFrom.cons rfl (fun vs wz hS hd K hK => ?_) ?_
      · try dsimp only at hK ⊢
        try simp only [List.getElem_toArray, List.getElem_cons_succ, List.getElem_cons_zero, Act.put, List.setIfInBounds_toArray, List.set_cons_zero, List.set_cons_succ]
        go_simp
        refine (HNp40.out _).mono ?_
        rintro e v1 ⟨rfl, b1⟩
        exact hK.out _ _ (hS.kept b1) b1 rfl
      refine TellsFrom.cons rfl (fun vs wz hS hd K hK => ?_) ?_
      · try dsimp only at hK ⊢
        have h0 : vs 0 = (.string ⟨E3.toArray⟩) := hd 0 (by kernel_rfl)
        generalize vs 0 = x0 at *
        subst h0
        have h1 : vs 1 = (.string ⟨p40.toArray⟩) := hd 1 (by kernel_rfl)
        generalize vs 1 = x1 at *
        subst h1
        try simp only [List.getElem_toArray, List.getElem_cons_succ, List.getElem_cons_zero, Act.put, List.setIfInBounds_toArray, List.set_cons_zero, List.set_cons_succ]
        have hlen : ¬ 9223372036854775807 < E3.length + p40.length := by omega
        go_simp
        exact hK.out _ _ hS (Below.refl _ _) (by first | (show Value.string ⟨(E3 ++ p40).toArray⟩ = .string ⟨C1.toArray⟩; rw [HC1.out]) | (show Value.string (⟨E3.toArray⟩ ++ ⟨p40.toArray⟩) = .string ⟨C1.toArray⟩; rw [HC1.out, ByteArray.mk_append_mk]))
      refine TellsFrom.cons rfl (fun vs wz hS hd K hK => ?_) ?_
      · try dsimp only at hK ⊢
        try simp only [List.getElem_toArray, List.getElem_cons_succ, List.getElem_cons_zero, Act.put, List.setIfInBounds_toArray, List.set_cons_zero, List.set_cons_succ]
        obtain ⟨⟨_, s0, s1, s2, s3, s4, s5⟩, hBl⟩ := id hS
        go_simp
        exact hK.out _ _ hS (Below.refl _ _) rfl
      refine TellsFrom.cons rfl (fun vs wz hS hd K hK => ?_) ?_
      · try dsimp only at hK ⊢
        have h3 : vs 3 = (.pointer (some ⟨w.heap.size, 2, none⟩)) := hd 3 (by kernel_rfl)
        generalize vs 3 = x3 at *
        subst h3
        try simp only [List.getElem_toArray, List.getElem_cons_succ, List.getElem_cons_zero, Act.put, List.setIfInBounds_toArray, List.set_cons_zero, List.set_cons_succ]
        obtain ⟨⟨_, s0, s1, s2, s3, s4, s5⟩, hBl⟩ := id hS
        go_simp
        exact hK.out _ _ hS (Below.refl _ _) rfl
      refine TellsFrom.cons rfl (fun vs wz hS hd K hK => ?_) ?_
      · try dsimp only at hK ⊢
        have h4 : vs 4 = (.int .i64 (Wd : Int)) := hd 4 (by kernel_rfl)
        generalize vs 4 = x4 at *
        subst h4
        try simp only [List.getElem_toArray, List.getElem_cons_succ, List.getElem_cons_zero, Act.put, List.setIfInBounds_toArray, List.set_cons_zero, List.set_cons_succ]
        go_simp
        refine (HNpw.out _).mono ?_
        rintro e v1 ⟨rfl, b1⟩
        exact hK.out _ _ (hS.kept b1) b1 rfl
      refine TellsFrom.cons rfl (fun vs wz hS hd K hK => ?_) ?_
      · try dsimp only at hK ⊢
        have h2 : vs 2 = (.string ⟨C1.toArray⟩) := hd 2 (by kernel_rfl)
        generalize vs 2 = x2 at *
        subst h2
        have h5 : vs 5 = (.string ⟨pw.toArray⟩) := hd 5 (by kernel_rfl)
        generalize vs 5 = x5 at *
        subst h5
        try simp only [List.getElem_toArray, List.getElem_cons_succ, List.getElem_cons_zero, Act.put, List.setIfInBounds_toArray, List.set_cons_zero, List.set_cons_succ]
        have hlen : ¬ 9223372036854775807 < C1.length + pw.length := by omega
        go_simp
        exact hK.out _ _ hS (Below.refl _ _) (by first | (show Value.string ⟨(C1 ++ pw).toArray⟩ = .string ⟨C2.toArray⟩; rw [HC2.out]) | (show Value.string (⟨C1.toArray⟩ ++ ⟨pw.toArray⟩) = .string ⟨C2.toArray⟩; rw [HC2.out, ByteArray.mk_append_mk]))
      refine TellsFrom.cons rfl (fun vs wz hS hd K hK => ?_) ?_
      · try dsimp only at hK ⊢
        try simp only [List.getElem_toArray, List.getElem_cons_succ, List.getElem_cons_zero, Act.put, List.setIfInBounds_toArray, List.set_cons_zero, List.set_cons_succ]
        obtain ⟨⟨_, s0, s1, s2, s3, s4, s5⟩, hBl⟩ := id hS
        go_simp
        exact hK.out _ _ hS (Below.refl _ _) rfl
      refine TellsFrom.cons rfl (fun vs wz hS hd K hK => ?_) ?_
      · try dsimp only at hK ⊢
        have h7 : vs 7 = (.pointer (some ⟨w.heap.size, 3, none⟩)) := hd 7 (by kernel_rfl)
        generalize vs 7 = x7 at *
        subst h7
        try simp only [List.getElem_toArray, List.getElem_cons_succ, List.getElem_cons_zero, Act.put, List.setIfInBounds_toArray, List.set_cons_zero, List.set_cons_succ]
        obtain ⟨⟨_, s0, s1, s2, s3, s4, s5⟩, hBl⟩ := id hS
        go_simp
        exact hK.out _ _ hS (Below.refl _ _) rfl
      refine TellsFrom.cons rfl (fun vs wz hS hd K hK => ?_) ?_
      · try dsimp only at hK ⊢
        have h8 : vs 8 = (.int .i64 (Hi : Int)) := hd 8 (by kernel_rfl)
        generalize vs 8 = x8 at *
        subst h8
        try simp only [List.getElem_toArray, List.getElem_cons_succ, List.getElem_cons_zero, Act.put, List.setIfInBounds_toArray, List.set_cons_zero, List.set_cons_succ]
        go_simp
        refine (HNph.out _).mono ?_
        rintro e v1 ⟨rfl, b1⟩
        exact hK.out _ _ (hS.kept b1) b1 rfl
      refine TellsFrom.cons rfl (fun vs wz hS hd K hK => ?_) ?_
      · try dsimp only at hK ⊢
        have h6 : vs 6 = (.string ⟨C2.toArray⟩) := hd 6 (by kernel_rfl)
        generalize vs 6 = x6 at *
        subst h6
        have h9 : vs 9 = (.string ⟨ph.toArray⟩) := hd 9 (by kernel_rfl)
        generalize vs 9 = x9 at *
        subst h9
        try simp only [List.getElem_toArray, List.getElem_cons_succ, List.getElem_cons_zero, Act.put, List.setIfInBounds_toArray, List.set_cons_zero, List.set_cons_succ]
        have hlen : ¬ 9223372036854775807 < C2.length + ph.length := by omega
        go_simp
        exact hK.out _ _ hS (Below.refl _ _) (by first | (show Value.string ⟨(C2 ++ ph).toArray⟩ = .string ⟨C3.toArray⟩; rw [HC3.out]) | (show Value.string (⟨C2.toArray⟩ ++ ⟨ph.toArray⟩) = .string ⟨C3.toArray⟩; rw [HC3.out, ByteArray.mk_append_mk]))
      refine TellsFrom.cons rfl (fun vs wz hS hd K hK => ?_) ?_
      · try dsimp only at hK ⊢
        try simp only [List.getElem_toArray, List.getElem_cons_succ, List.getElem_cons_zero, Act.put, List.setIfInBounds_toArray, List.set_cons_zero, List.set_cons_succ]
        go_simp
        refine (HNp12.out _).mono ?_
        rintro e v1 ⟨rfl, b1⟩
        exact hK.out _ _ (hS.kept b1) b1 rfl
      refine TellsFrom.cons rfl (fun vs wz hS hd K hK => ?_) ?_
      · try dsimp only at hK ⊢
        have h10 : vs 10 = (.string ⟨C3.toArray⟩) := hd 10 (by kernel_rfl)
        generalize vs 10 = x10 at *
        subst h10
        have h11 : vs 11 = (.string ⟨p12.toArray⟩) := hd 11 (by kernel_rfl)
        generalize vs 11 = x11 at *
        subst h11
        try simp only [List.getElem_toArray, List.getElem_cons_succ, List.getElem_cons_zero, Act.put, List.setIfInBounds_toArray, List.set_cons_zero, List.set_cons_succ]
        have hlen : ¬ 9223372036854775807 < C3.length + p12.length := by omega
        go_simp
        exact hK.out _ _ hS (Below.refl _ _) (by first | (show Value.string ⟨(C3 ++ p12).toArray⟩ = .string ⟨C4.toArray⟩; rw [HC4.out]) | (show Value.string (⟨C3.toArray⟩ ++ ⟨p12.toArray⟩) = .string ⟨C4.toArray⟩; rw [HC4.out, ByteArray.mk_append_mk]))
      refine TellsFrom.cons rfl (fun vs wz hS hd K hK => ?_) ?_
      · try dsimp only at hK ⊢
        try simp only [List.getElem_toArray, List.getElem_cons_succ, List.getElem_cons_zero, Act.put, List.setIfInBounds_toArray, List.set_cons_zero, List.set_cons_succ]
        obtain ⟨⟨_, s0, s1, s2, s3, s4, s5⟩, hBl⟩ := id hS
        go_simp
        exact hK.out _ _ hS (Below.refl _ _) rfl
      refine TellsFrom.cons rfl (fun vs wz hS hd K hK => ?_) ?_
      · try dsimp only at hK ⊢
        have h13 : vs 13 = (.pointer (some ⟨w.heap.size, 1, none⟩)) := hd 13 (by kernel_rfl)
        generalize vs 13 = x13 at *
        subst h13
        try simp only [List.getElem_toArray, List.getElem_cons_succ, List.getElem_cons_zero, Act.put, List.setIfInBounds_toArray, List.set_cons_zero, List.set_cons_succ]
        obtain ⟨⟨_, s0, s1, s2, s3, s4, s5⟩, hBl⟩ := id hS
        go_simp
        exact hK.out _ _ hS (Below.refl _ _) rfl
      refine TellsFrom.cons rfl (fun vs wz hS hd K hK => ?_) ?_
      · try dsimp only at hK ⊢
        have h14 : vs 14 = (.int .i64 (D : Int)) := hd 14 (by kernel_rfl)
        generalize vs 14 = x14 at *
        subst h14
        try simp only [List.getElem_toArray, List.getElem_cons_succ, List.getElem_cons_zero, Act.put, List.setIfInBounds_toArray, List.set_cons_zero, List.set_cons_succ]
        go_simp
        refine (HNpd.out _).mono ?_
        rintro e v1 ⟨rfl, b1⟩
        exact hK.out _ _ (hS.kept b1) b1 rfl
      refine TellsFrom.cons rfl (fun vs wz hS hd K hK => ?_) ?_
      · try dsimp only at hK ⊢
        have h12 : vs 12 = (.string ⟨C4.toArray⟩) := hd 12 (by kernel_rfl)
        generalize vs 12 = x12 at *
        subst h12
        have h15 : vs 15 = (.string ⟨pd.toArray⟩) := hd 15 (by kernel_rfl)
        generalize vs 15 = x15 at *
        subst h15
        try simp only [List.getElem_toArray, List.getElem_cons_succ, List.getElem_cons_zero, Act.put, List.setIfInBounds_toArray, List.set_cons_zero, List.set_cons_succ]
        have hlen : ¬ 9223372036854775807 < C4.length + pd.length := by omega
        go_simp
        exact hK.out _ _ hS (Below.refl _ _) (by first | (show Value.string ⟨(C4 ++ pd).toArray⟩ = .string ⟨C5.toArray⟩; rw [HC5.out]) | (show Value.string (⟨C4.toArray⟩ ++ ⟨pd.toArray⟩) = .string ⟨C5.toArray⟩; rw [HC5.out, ByteArray.mk_append_mk]))
      exact TellsFrom.nil
    · intro vs wz hS hd
      try dsimp only
      have h16 : vs 16 = .string ⟨C5.toArray⟩ := hd 16 (by omega)
      clear hd
      generalize vs 0 = y0 at *
      generalize vs 1 = y1 at *
      generalize vs 2 = y2 at *
      generalize vs 3 = y3 at *
      generalize vs 4 = y4 at *
      generalize vs 5 = y5 at *
      generalize vs 6 = y6 at *
      generalize vs 7 = y7 at *
      generalize vs 8 = y8 at *
      generalize vs 9 = y9 at *
      generalize vs 10 = y10 at *
      generalize vs 11 = y11 at *
      generalize vs 12 = y12 at *
      generalize vs 13 = y13 at *
      generalize vs 14 = y14 at *
      generalize vs 15 = y15 at *
      generalize vs 16 = y16 at *
      subst h16
      refine wpAnyH_take (i := 17) (v := .string ⟨C5.toArray⟩) rfl (by kernel_rfl) (by kernel_rfl) (by kernel_rfl) (fun _ _ _ h => h) (Or.inl ⟨by rfl, ?_⟩) trivial ?_
      · intro wy _
        go_simp
      refine wpAnyH_done (by kernel_rfl) ?_ _
      try simp only [List.getElem_toArray, List.getElem_cons_succ, List.getElem_cons_zero, Act.put, List.setIfInBounds_toArray, List.set_cons_zero, List.set_cons_succ]
      have HS8 : Hid (BxS w wz (.int .i64 k) (.int .i64 (D : Int)) (.int .i64 (Wd : Int)) (.int .i64 (Hi : Int)) (.slice ca cn cc) (.slice pa pn pc)) := hS
      clear hS HSc
      go_wp2_with fail
      refine wp_region_told (S := (fun wz => BxS w wz (.int .i64 k) (.int .i64 (D : Int)) (.int .i64 (Wd : Int)) (.int .i64 (Hi : Int)) (.slice ca cn cc) (.slice pa pn pc))) 20 74 [.is (.string ⟨C5.toArray⟩), .is (.bool true), .is (.int .i64 (fr : Int)), .is (.string ⟨pf.toArray⟩), .is (.string ⟨D1.toArray⟩), .is (.string S3), .is (.int .i64 (dn : Int)), .is (.string ⟨pdn.toArray⟩), .is (.string ⟨D2.toArray⟩), .is (.string ⟨p04.toArray⟩), .is (.string ⟨D3.toArray⟩), .is (.string ⟨p04.toArray⟩), .is (.string ⟨D4.toArray⟩), .is (.pointer (some ⟨w.heap.size, 4, none⟩)), .is (.slice ca cn cc), .is (.int .i64 (cn : Int)), .is (.string ⟨pcn.toArray⟩), .is (.string ⟨D5.toArray⟩), .is (.string ⟨p04.toArray⟩), .is (.string ⟨D6.toArray⟩)] (by kernel_rfl) (by kernel_rfl) (by rfl) (fun _ _ _ _ hd h => ⟨hd.trans h.1, h.2⟩) (fun vs => by simp only [puts, List.getElem?_toArray, List.getElem?_cons_succ, List.getElem?_cons_zero, Option.bind_some, Act.put, List.setIfInBounds_toArray, List.set_cons_zero, List.set_cons_succ]; exact rfl) (HS8.out.kept (Below.refl _ _).drew) ?_ ?_
      · refine TellsFrom.cons rfl (fun vs wz hS hd K hK => ?_) ?_
        · try dsimp only at hK ⊢
          try simp only [List.getElem_toArray, List.getElem_cons_succ, List.getElem_cons_zero, Act.put, List.setIfInBounds_toArray, List.set_cons_zero, List.set_cons_succ]
          obtain ⟨⟨_, s0, s1, s2, s3, s4, s5⟩, hBl⟩ := id hS
          go_simp
          exact hK.out _ _ hS (Below.refl _ _) rfl
        refine TellsFrom.cons rfl (fun vs wz hS hd K hK => ?_) ?_
        · try dsimp only at hK ⊢
          try simp only [List.getElem_toArray, List.getElem_cons_succ, List.getElem_cons_zero, Act.put, List.setIfInBounds_toArray, List.set_cons_zero, List.set_cons_succ]
          obtain ⟨⟨_, s0, s1, s2, s3, s4, s5⟩, hBl⟩ := id hS
          go_simp
          exact hK.out _ _ hS (Below.refl _ _) rfl
        refine TellsFrom.cons rfl (fun vs wz hS hd K hK => ?_) ?_
        · try dsimp only at hK ⊢
          have h1 : vs 1 = (.bool true) := hd 1 (by kernel_rfl)
          generalize vs 1 = x1 at *
          subst h1
          try simp only [List.getElem_toArray, List.getElem_cons_succ, List.getElem_cons_zero, Act.put, List.setIfInBounds_toArray, List.set_cons_zero, List.set_cons_succ]
          go_simp
          refine (HFL.out _).mono ?_
          rintro e v1 ⟨rfl, b1⟩
          exact hK.out _ _ (hS.kept b1) b1 rfl
        refine TellsFrom.cons rfl (fun vs wz hS hd K hK => ?_) ?_
        · try dsimp only at hK ⊢
          have h2 : vs 2 = (.int .i64 (fr : Int)) := hd 2 (by kernel_rfl)
          generalize vs 2 = x2 at *
          subst h2
          try simp only [List.getElem_toArray, List.getElem_cons_succ, List.getElem_cons_zero, Act.put, List.setIfInBounds_toArray, List.set_cons_zero, List.set_cons_succ]
          go_simp
          refine (HNpf.out _).mono ?_
          rintro e v1 ⟨rfl, b1⟩
          exact hK.out _ _ (hS.kept b1) b1 rfl
        refine TellsFrom.cons rfl (fun vs wz hS hd K hK => ?_) ?_
        · try dsimp only at hK ⊢
          have h0 : vs 0 = (.string ⟨C5.toArray⟩) := hd 0 (by kernel_rfl)
          generalize vs 0 = x0 at *
          subst h0
          have h3 : vs 3 = (.string ⟨pf.toArray⟩) := hd 3 (by kernel_rfl)
          generalize vs 3 = x3 at *
          subst h3
          try simp only [List.getElem_toArray, List.getElem_cons_succ, List.getElem_cons_zero, Act.put, List.setIfInBounds_toArray, List.set_cons_zero, List.set_cons_succ]
          have hlen : ¬ 9223372036854775807 < C5.length + pf.length := by omega
          go_simp
          exact hK.out _ _ hS (Below.refl _ _) (by first | (show Value.string ⟨(C5 ++ pf).toArray⟩ = .string ⟨D1.toArray⟩; rw [HD1.out]) | (show Value.string (⟨C5.toArray⟩ ++ ⟨pf.toArray⟩) = .string ⟨D1.toArray⟩; rw [HD1.out, ByteArray.mk_append_mk]))
        refine TellsFrom.cons rfl (fun vs wz hS hd K hK => ?_) ?_
        · try dsimp only at hK ⊢
          try simp only [List.getElem_toArray, List.getElem_cons_succ, List.getElem_cons_zero, Act.put, List.setIfInBounds_toArray, List.set_cons_zero, List.set_cons_succ]
          obtain ⟨⟨_, s0, s1, s2, s3, s4, s5⟩, hBl⟩ := id hS
          go_simp
          exact hK.out _ _ hS (Below.refl _ _) rfl
        refine TellsFrom.cons rfl (fun vs wz hS hd K hK => ?_) ?_
        · try dsimp only at hK ⊢
          have h5 : vs 5 = (.string S3) := hd 5 (by kernel_rfl)
          generalize vs 5 = x5 at *
          subst h5
          try simp only [List.getElem_toArray, List.getElem_cons_succ, List.getElem_cons_zero, Act.put, List.setIfInBounds_toArray, List.set_cons_zero, List.set_cons_succ]
          have hst := HST.out
          go_simp
          exact hK.out _ _ hS (Below.refl _ _) rfl
        refine TellsFrom.cons rfl (fun vs wz hS hd K hK => ?_) ?_
        · try dsimp only at hK ⊢
          have h6 : vs 6 = (.int .i64 (dn : Int)) := hd 6 (by kernel_rfl)
          generalize vs 6 = x6 at *
          subst h6
          try simp only [List.getElem_toArray, List.getElem_cons_succ, List.getElem_cons_zero, Act.put, List.setIfInBounds_toArray, List.set_cons_zero, List.set_cons_succ]
          go_simp
          refine (HNpdn.out _).mono ?_
          rintro e v1 ⟨rfl, b1⟩
          exact hK.out _ _ (hS.kept b1) b1 rfl
        refine TellsFrom.cons rfl (fun vs wz hS hd K hK => ?_) ?_
        · try dsimp only at hK ⊢
          have h4 : vs 4 = (.string ⟨D1.toArray⟩) := hd 4 (by kernel_rfl)
          generalize vs 4 = x4 at *
          subst h4
          have h7 : vs 7 = (.string ⟨pdn.toArray⟩) := hd 7 (by kernel_rfl)
          generalize vs 7 = x7 at *
          subst h7
          try simp only [List.getElem_toArray, List.getElem_cons_succ, List.getElem_cons_zero, Act.put, List.setIfInBounds_toArray, List.set_cons_zero, List.set_cons_succ]
          have hlen : ¬ 9223372036854775807 < D1.length + pdn.length := by omega
          go_simp
          exact hK.out _ _ hS (Below.refl _ _) (by first | (show Value.string ⟨(D1 ++ pdn).toArray⟩ = .string ⟨D2.toArray⟩; rw [HD2.out]) | (show Value.string (⟨D1.toArray⟩ ++ ⟨pdn.toArray⟩) = .string ⟨D2.toArray⟩; rw [HD2.out, ByteArray.mk_append_mk]))
        refine TellsFrom.cons rfl (fun vs wz hS hd K hK => ?_) ?_
        · try dsimp only at hK ⊢
          try simp only [List.getElem_toArray, List.getElem_cons_succ, List.getElem_cons_zero, Act.put, List.setIfInBounds_toArray, List.set_cons_zero, List.set_cons_succ]
          go_simp
          refine (HNp04.out _).mono ?_
          rintro e v1 ⟨rfl, b1⟩
          exact hK.out _ _ (hS.kept b1) b1 rfl
        refine TellsFrom.cons rfl (fun vs wz hS hd K hK => ?_) ?_
        · try dsimp only at hK ⊢
          have h8 : vs 8 = (.string ⟨D2.toArray⟩) := hd 8 (by kernel_rfl)
          generalize vs 8 = x8 at *
          subst h8
          have h9 : vs 9 = (.string ⟨p04.toArray⟩) := hd 9 (by kernel_rfl)
          generalize vs 9 = x9 at *
          subst h9
          try simp only [List.getElem_toArray, List.getElem_cons_succ, List.getElem_cons_zero, Act.put, List.setIfInBounds_toArray, List.set_cons_zero, List.set_cons_succ]
          have hlen : ¬ 9223372036854775807 < D2.length + p04.length := by omega
          go_simp
          exact hK.out _ _ hS (Below.refl _ _) (by first | (show Value.string ⟨(D2 ++ p04).toArray⟩ = .string ⟨D3.toArray⟩; rw [HD3.out]) | (show Value.string (⟨D2.toArray⟩ ++ ⟨p04.toArray⟩) = .string ⟨D3.toArray⟩; rw [HD3.out, ByteArray.mk_append_mk]))
        refine TellsFrom.cons rfl (fun vs wz hS hd K hK => ?_) ?_
        · try dsimp only at hK ⊢
          try simp only [List.getElem_toArray, List.getElem_cons_succ, List.getElem_cons_zero, Act.put, List.setIfInBounds_toArray, List.set_cons_zero, List.set_cons_succ]
          go_simp
          refine (HNp04.out _).mono ?_
          rintro e v1 ⟨rfl, b1⟩
          exact hK.out _ _ (hS.kept b1) b1 rfl
        refine TellsFrom.cons rfl (fun vs wz hS hd K hK => ?_) ?_
        · try dsimp only at hK ⊢
          have h10 : vs 10 = (.string ⟨D3.toArray⟩) := hd 10 (by kernel_rfl)
          generalize vs 10 = x10 at *
          subst h10
          have h11 : vs 11 = (.string ⟨p04.toArray⟩) := hd 11 (by kernel_rfl)
          generalize vs 11 = x11 at *
          subst h11
          try simp only [List.getElem_toArray, List.getElem_cons_succ, List.getElem_cons_zero, Act.put, List.setIfInBounds_toArray, List.set_cons_zero, List.set_cons_succ]
          have hlen : ¬ 9223372036854775807 < D3.length + p04.length := by omega
          go_simp
          exact hK.out _ _ hS (Below.refl _ _) (by first | (show Value.string ⟨(D3 ++ p04).toArray⟩ = .string ⟨D4.toArray⟩; rw [HD4.out]) | (show Value.string (⟨D3.toArray⟩ ++ ⟨p04.toArray⟩) = .string ⟨D4.toArray⟩; rw [HD4.out, ByteArray.mk_append_mk]))
        refine TellsFrom.cons rfl (fun vs wz hS hd K hK => ?_) ?_
        · try dsimp only at hK ⊢
          try simp only [List.getElem_toArray, List.getElem_cons_succ, List.getElem_cons_zero, Act.put, List.setIfInBounds_toArray, List.set_cons_zero, List.set_cons_succ]
          obtain ⟨⟨_, s0, s1, s2, s3, s4, s5⟩, hBl⟩ := id hS
          go_simp
          exact hK.out _ _ hS (Below.refl _ _) rfl
        refine TellsFrom.cons rfl (fun vs wz hS hd K hK => ?_) ?_
        · try dsimp only at hK ⊢
          have h13 : vs 13 = (.pointer (some ⟨w.heap.size, 4, none⟩)) := hd 13 (by kernel_rfl)
          generalize vs 13 = x13 at *
          subst h13
          try simp only [List.getElem_toArray, List.getElem_cons_succ, List.getElem_cons_zero, Act.put, List.setIfInBounds_toArray, List.set_cons_zero, List.set_cons_succ]
          obtain ⟨⟨_, s0, s1, s2, s3, s4, s5⟩, hBl⟩ := id hS
          go_simp
          exact hK.out _ _ hS (Below.refl _ _) rfl
        refine TellsFrom.cons rfl (fun vs wz hS hd K hK => ?_) ?_
        · try dsimp only at hK ⊢
          have h14 : vs 14 = (.slice ca cn cc) := hd 14 (by kernel_rfl)
          generalize vs 14 = x14 at *
          subst h14
          try simp only [List.getElem_toArray, List.getElem_cons_succ, List.getElem_cons_zero, Act.put, List.setIfInBounds_toArray, List.set_cons_zero, List.set_cons_succ]
          obtain ⟨⟨_, s0, s1, s2, s3, s4, s5⟩, hBl⟩ := id hS
          go_simp
          exact hK.out _ _ hS (Below.refl _ _) rfl
        refine TellsFrom.cons rfl (fun vs wz hS hd K hK => ?_) ?_
        · try dsimp only at hK ⊢
          have h15 : vs 15 = (.int .i64 (cn : Int)) := hd 15 (by kernel_rfl)
          generalize vs 15 = x15 at *
          subst h15
          try simp only [List.getElem_toArray, List.getElem_cons_succ, List.getElem_cons_zero, Act.put, List.setIfInBounds_toArray, List.set_cons_zero, List.set_cons_succ]
          go_simp
          refine (HNpcn.out _).mono ?_
          rintro e v1 ⟨rfl, b1⟩
          exact hK.out _ _ (hS.kept b1) b1 rfl
        refine TellsFrom.cons rfl (fun vs wz hS hd K hK => ?_) ?_
        · try dsimp only at hK ⊢
          have h12 : vs 12 = (.string ⟨D4.toArray⟩) := hd 12 (by kernel_rfl)
          generalize vs 12 = x12 at *
          subst h12
          have h16 : vs 16 = (.string ⟨pcn.toArray⟩) := hd 16 (by kernel_rfl)
          generalize vs 16 = x16 at *
          subst h16
          try simp only [List.getElem_toArray, List.getElem_cons_succ, List.getElem_cons_zero, Act.put, List.setIfInBounds_toArray, List.set_cons_zero, List.set_cons_succ]
          have hlen : ¬ 9223372036854775807 < D4.length + pcn.length := by omega
          go_simp
          exact hK.out _ _ hS (Below.refl _ _) (by first | (show Value.string ⟨(D4 ++ pcn).toArray⟩ = .string ⟨D5.toArray⟩; rw [HD5.out]) | (show Value.string (⟨D4.toArray⟩ ++ ⟨pcn.toArray⟩) = .string ⟨D5.toArray⟩; rw [HD5.out, ByteArray.mk_append_mk]))
        refine TellsFrom.cons rfl (fun vs wz hS hd K hK => ?_) ?_
        · try dsimp only at hK ⊢
          try simp only [List.getElem_toArray, List.getElem_cons_succ, List.getElem_cons_zero, Act.put, List.setIfInBounds_toArray, List.set_cons_zero, List.set_cons_succ]
          go_simp
          refine (HNp04.out _).mono ?_
          rintro e v1 ⟨rfl, b1⟩
          exact hK.out _ _ (hS.kept b1) b1 rfl
        refine TellsFrom.cons rfl (fun vs wz hS hd K hK => ?_) ?_
        · try dsimp only at hK ⊢
          have h17 : vs 17 = (.string ⟨D5.toArray⟩) := hd 17 (by kernel_rfl)
          generalize vs 17 = x17 at *
          subst h17
          have h18 : vs 18 = (.string ⟨p04.toArray⟩) := hd 18 (by kernel_rfl)
          generalize vs 18 = x18 at *
          subst h18
          try simp only [List.getElem_toArray, List.getElem_cons_succ, List.getElem_cons_zero, Act.put, List.setIfInBounds_toArray, List.set_cons_zero, List.set_cons_succ]
          have hlen : ¬ 9223372036854775807 < D5.length + p04.length := by omega
          go_simp
          exact hK.out _ _ hS (Below.refl _ _) (by first | (show Value.string ⟨(D5 ++ p04).toArray⟩ = .string ⟨D6.toArray⟩; rw [HD6.out]) | (show Value.string (⟨D5.toArray⟩ ++ ⟨p04.toArray⟩) = .string ⟨D6.toArray⟩; rw [HD6.out, ByteArray.mk_append_mk]))
        exact TellsFrom.nil
      · intro vs wz hS hd
        try dsimp only
        have h19 : vs 19 = .string ⟨D6.toArray⟩ := hd 19 (by omega)
        clear hd
        generalize vs 0 = y0 at *
        generalize vs 1 = y1 at *
        generalize vs 2 = y2 at *
        generalize vs 3 = y3 at *
        generalize vs 4 = y4 at *
        generalize vs 5 = y5 at *
        generalize vs 6 = y6 at *
        generalize vs 7 = y7 at *
        generalize vs 8 = y8 at *
        generalize vs 9 = y9 at *
        generalize vs 10 = y10 at *
        generalize vs 11 = y11 at *
        generalize vs 12 = y12 at *
        generalize vs 13 = y13 at *
        generalize vs 14 = y14 at *
        generalize vs 15 = y15 at *
        generalize vs 16 = y16 at *
        generalize vs 17 = y17 at *
        generalize vs 18 = y18 at *
        generalize vs 19 = y19 at *
        subst h19
        refine wpAnyH_take (i := 20) (v := .string ⟨D6.toArray⟩) rfl (by kernel_rfl) (by kernel_rfl) (by kernel_rfl) (fun _ _ _ h => h) (Or.inl ⟨by rfl, ?_⟩) trivial ?_
        · intro wy _
          go_simp
        refine wpAnyH_done (by kernel_rfl) ?_ _
        try simp only [List.getElem_toArray, List.getElem_cons_succ, List.getElem_cons_zero, Act.put, List.setIfInBounds_toArray, List.set_cons_zero, List.set_cons_succ]
        have HS9 : Hid (BxS w wz (.int .i64 k) (.int .i64 (D : Int)) (.int .i64 (Wd : Int)) (.int .i64 (Hi : Int)) (.slice ca cn cc) (.slice pa pn pc)) := hS
        clear hS HS8
        obtain ⟨⟨_, a0, a1, a2, a3, a4, a5⟩, hBl⟩ := HS9.out
        go_wp2_with fail
        refine (HCO.out _ hBl).mono ?_
        rintro e u1 ⟨rfl, d1⟩
        have HSe : Hid (Below w.heap.size w u1) := hBl.trans (d1.mono hBl.size)
        clear d1 a0 a1 a2 a3 a4 a5 hBl HS9
        have hln1 : ¬ 9223372036854775807 < D6.length + T2.length := by omega
        go_wp2_with fail
        go_ret
        exact ⟨by rw [← HRR.out]; rfl, HSe.out⟩
end Go.Proofs.Ytcgmmpfckmhahaa

/- The exact law of BmpPut, at every picture. -/
namespace Go.Proofs.Ytcgmmpfckmhahaa
open Go.RowKit

theorem Bm.kinds {k : Int} {D : Nat} {runs : Bool} (hd : (D : Int) ∈ depL k) (hs : Bm.rep k (D : Int) runs = true) : (k = 2 ∧ D = 24 ∧ runs = false) ∨ (k = 4 ∧ D = 8) := by
  unfold Bm.rep at hs
  rcases Im.kinds hd with ⟨rfl, h⟩ | ⟨rfl, h⟩ | ⟨rfl, h⟩ | ⟨rfl, h⟩
  · simp at hs
  · refine .inl ⟨rfl, h, ?_⟩
    cases runs
    · rfl
    · simp at hs
  · simp at hs
  · refine .inr ⟨rfl, ?_⟩
    simp at hs
    omega
theorem Bm.holds {k wd hi : Int} {D : Nat} {cs ps : List Int} {runs : Bool} (ok : Im.Ok k (D : Int) wd hi cs ps) (hs : Bm.rep k (D : Int) runs = true) :
    ∃ S : Nat, 1 ≤ S ∧ S ≤ 4 ∧ D = 8 * S ∧ (runs = true → k = 4) ∧ Rt.fit S ps = true ∧ Rt.fit 4 cs = true ∧ cs.length ≤ 256 := by
  obtain ⟨hd, _, _, hco, _, hW⟩ := ok
  have e1 : (256 ^ 1 : Nat) = 256 := by decide
  have e3 : (256 ^ 3 : Nat) = 16777216 := by decide
  have e4 : (256 ^ 4 : Nat) = 4294967296 := by decide
  have hnc : k ≠ 4 → cs = [] := fun h => List.length_eq_zero_iff.1 (hco.1 h)
  rcases Bm.kinds hd hs with ⟨rfl, rfl, rfl⟩ | ⟨rfl, rfl⟩
  · have hb : ∀ v ∈ ps, 0 ≤ v ∧ v ≤ 16777215 := fun v hv => by
      have := hW v hv
      have e : Im.most 2 ((24 : Nat) : Int) cs = 16777215 := by unfold Im.most; rw [if_neg (by decide)]; decide
      omega
    refine ⟨3, by omega, by omega, rfl, (fun h => by cases h), ?_, ?_, by rw [hnc (by decide)]; decide⟩
    · exact Tg.fit_of (fun z hz => by have := hb z hz; rw [e3]; omega)
    · rw [hnc (by decide)]; rfl
  · obtain ⟨h1, h2, h3⟩ := hco.2 rfl
    have hl : cs.length ≤ 256 := h2
    have hb : ∀ v ∈ ps, 0 ≤ v ∧ v ≤ 255 := fun v hv => by
      have := hW v hv
      have e : Im.most 4 ((8 : Nat) : Int) cs = (cs.length : Int) - 1 := by unfold Im.most; rw [if_pos rfl]
      omega
    refine ⟨1, by omega, by omega, rfl, fun _ => rfl, ?_, ?_, hl⟩
    · exact Tg.fit_of (fun z hz => by have := hb z hz; rw [e1]; omega)
    · exact Tg.fit_of (fun z hz => by have := h3 z hz; rw [e4]; omega)

theorem impl_bmpPut (k d wd hi : Int) (ca : Option Addr) (cn cc : Nat) (pa : Option Addr) (pn pc : Nat) (cs ps : List Int) (runs : Bool) (w : World) (hc : Ints w ca cs) (hcn : cs.length = cn) (hcl : cn ≤ 1048576) (hp : Ints w pa ps) (hpn : ps.length = pn) (hpl : pn ≤ 1048576) :
    Calls Try.prog 8 #[.agg #[.int .i64 k, .int .i64 d, .int .i64 wd, .int .i64 hi, .slice ca cn cc, .slice pa pn pc], .bool runs] w fun e w' => e = .returned (.string ⟨(Bm.ans k d wd hi cs ps runs).toArray⟩) ∧ Below w.heap.size w w' := by
  have hH : ∀ w', Below w.heap.size w w' → _ := fun w' b => bmpHolds_any k d wd hi ca cn cc pa pn pc (Im.okB k d wd hi cs ps) w' (fun w'' b' => impl_imageOk k d wd hi ca cn cc pa pn pc w'' cs ps ((hc.kept b).kept b') hcn hcl ((hp.kept b).kept b') hpn hpl)
  rcases hB : (Im.okB k d wd hi cs ps && Bm.rep k d runs) with _ | _
  · have e : Bm.ans k d wd hi cs ps runs = [] := by unfold Bm.ans; rw [hB]; rfl
    rw [e]
    exact impl_bmp_no k d wd hi ca cn cc pa pn pc (Im.okB k d wd hi cs ps && Bm.hold k d) runs w (by rw [Bool.and_assoc, ← Bm.rep_is]; exact hB) hH
  · have hB' := hB
    rw [Bool.and_eq_true] at hB
    have hOk := Tg.ok_open hB.1
    obtain ⟨hd, hw, hh, _, hm, _⟩ := Tg.ok_open hB.1
    obtain ⟨Wd, rfl⟩ := Int.eq_ofNat_of_zero_le (show 0 ≤ wd by omega)
    obtain ⟨Hi, rfl⟩ := Int.eq_ofNat_of_zero_le (show 0 ≤ hi by omega)
    obtain ⟨D, rfl, _, _⟩ := Im.dep_all hd
    obtain ⟨S, h1, h2, h3, h4, h6, h7, h8⟩ := Bm.holds hOk hB.2
    have e : Bm.ans k (D : Int) (Wd : Int) (Hi : Int) cs ps runs = [66, 77] ++ Tg.txt (Bm.head D Wd Hi cn (Bm.data S Wd Hi ps runs).length runs) ++ Rt.txt 4 cs ++ Bm.data S Wd Hi ps runs := by
      unfold Bm.ans
      rw [hB', if_pos rfl, Int.toNat_natCast, Int.toNat_natCast, Int.toNat_natCast, hcn, show D / 8 = S by omega]
    have em : ((Wd * Hi : Nat) : Int) = (Wd : Int) * (Hi : Int) := by simp
    rw [e]
    refine impl_bmp_yes k D S Wd Hi ca cn cc pa pn pc cs ps runs w hc hcn (by omega) hp hpn (by omega) (by omega) (by omega) h1 h2 h3 h6 h7 h4 (fun w' b => ?_)
    have h := hH w' b
    have ht : (Im.okB k (D : Int) (Wd : Int) (Hi : Int) cs ps && Bm.hold k (D : Int)) = true := by
      rw [Bool.and_eq_true]
      refine ⟨hB.1, ?_⟩
      have h9 := hB.2
      rw [Bm.rep_is, Bool.and_eq_true] at h9
      exact h9.1
    rw [ht] at h
    exact h

set_option maxHeartbeats 1000000 in
theorem spec_bmpPut (k d wd hi : Int) (ca : Option Addr) (cn cc : Nat) (pa : Option Addr) (pn pc : Nat) (cs ps : List Int) (runs : Bool) (w : World) (hc : Ints w ca cs) (hcn : cs.length = cn) (hcl : cn ≤ 1048576) (hp : Ints w pa ps) (hpn : ps.length = pn) (hpc : pn ≤ pc) (hpl : pc ≤ 1048576) :
    Calls Try.prog 6 #[.agg #[.int .i64 k, .int .i64 d, .int .i64 wd, .int .i64 hi, .slice ca cn cc, .slice pa pn pc], .bool runs] w fun e w' => e = .returned (.string ⟨(Bm.ans k d wd hi cs ps runs).toArray⟩) ∧ Below w.heap.size w w' := by
  refine spec_bmp k d wd hi ca cn cc pa pn pc (Im.okB k d wd hi cs ps) _ runs w (fun w' b => spec_imageOk k d wd hi ca cn cc pa pn pc w' cs ps (hc.kept b) hcn hcl (hp.kept b) hpn) (fun hB w' b => ?_) (fun hB => ?_)
  · have hB' := hB
    rw [Bool.and_eq_true] at hB
    have hOk := Tg.ok_open hB.1
    obtain ⟨hd, hw, hh, _, hm, _⟩ := Tg.ok_open hB.1
    obtain ⟨Wd, rfl⟩ := Int.eq_ofNat_of_zero_le (show 0 ≤ wd by omega)
    obtain ⟨Hi, rfl⟩ := Int.eq_ofNat_of_zero_le (show 0 ≤ hi by omega)
    obtain ⟨D, rfl, _, _⟩ := Im.dep_all hd
    obtain ⟨S, h1, h2, h3, h4, h6, h7, h8⟩ := Bm.holds hOk hB.2
    have em : ((Wd * Hi : Nat) : Int) = (Wd : Int) * (Hi : Int) := by simp
    have hpm : pn = Wd * Hi := by omega
    have hpos : 1 * 1 ≤ Wd * Hi := Nat.mul_le_mul (by omega) (by omega)
    have e : Bm.ans k (D : Int) (Wd : Int) (Hi : Int) cs ps runs = [66, 77] ++ Tg.txt (Bm.head D Wd Hi cn (Bm.data S Wd Hi ps runs).length runs) ++ Rt.txt 4 cs ++ Bm.data S Wd Hi ps runs := by
      unfold Bm.ans
      rw [hB', if_pos rfl, Int.toNat_natCast, Int.toNat_natCast, Int.toNat_natCast, hcn, show D / 8 = S by omega]
    rw [e]
    rcases hp with hnil | ⟨b0, off, rfl, hb0, hcell⟩
    · rw [hnil] at hpn; simp at hpn; omega
    · have hL : LiesI w b0 off ps := ⟨hb0, hcell⟩
      refine spec_l11Bmp_core k D Wd Hi (if runs then 1 else 0) ca cn cc (some ⟨b0, off, none⟩) pn pc (Bm.lines S (Bm.rows Wd Hi ps)) (Rt.txt 4 cs) (Bm.data S Wd Hi ps runs) (Bm.rows Wd Hi ps) runs w' (by omega) (by omega) (by omega) (by omega) rfl
        (fun w'' b' => l11Rows_any k D S Wd Hi ca cn cc b0 off pn pc ps w'' ((hL.kept b).kept b') hpn (by omega) (by omega) hpm h2 h3 h6)
        (fun w'' b' => l11Below_any k D Wd Hi ca cn cc b0 off pn pc ps w'' ((hL.kept b).kept b') hpn (by omega) (by omega) hpm hpc (by omega) (by omega))
        ?_ ?_
        (fun w'' b' => l11Colors_any ca cn cc 4 cs w'' ((hc.kept b).kept b') hcn (by omega) (by omega) h7)
        (by rw [Rt.txt_len, hcn]; omega) (Bm.data_len S Wd Hi ps runs h2 (by omega) (by omega))
      · rintro rfl a cap w'' hr
        exact spec_rlePut a cap Hi (Bm.rows Wd Hi ps) w'' hr (Bm.rows_len _ _ _) (by omega) (fun l hl => by rw [Bm.rows_each hl]; omega)
      · rintro rfl
        rfl
  · unfold Bm.ans
    rw [hB]
    rfl

set_option maxHeartbeats 1000000 in
theorem exBmpPut (k d wd hi : Int) (ca : Option Addr) (cn cc : Nat) (pa : Option Addr) (pn pc : Nat) (bo : Bool) (w : World) (hc : Row64 w ca cn cc) (hp : Row64 w pa pn pc) :
    Calls Try.prog 3 #[.agg #[.int .i64 k, .int .i64 d, .int .i64 wd, .int .i64 hi, .slice ca cn cc, .slice pa pn pc], .bool bo] w fun e w' => e = .returned (.bool true) ∧ Below w.heap.size w w' := by
  obtain ⟨_, hcm, cs, hcn, hIc, _⟩ := hc
  obtain ⟨_, hpm, ps, hpn, hIp, _⟩ := hp
  unfold maxLen at hcm hpm
  have hB0 : Below w.heap.size w (w.alloc (.cells #[.int .i64 k, .int .i64 d, .int .i64 wd, .int .i64 hi, .slice ca cn cc, .slice pa pn pc] 24)) := (Below.refl _ _).alloc (Nat.le_refl _) _
  by_cases hbig : 1048576 < cn + pn
  · have HZ : Hid (Calls Try.prog 5 #[.agg #[.int .i64 k, .int .i64 d, .int .i64 wd, .int .i64 hi, .slice ca cn cc, .slice pa pn pc], .int .i64 1048576] (w.alloc (.cells #[.int .i64 k, .int .i64 d, .int .i64 wd, .int .i64 hi, .slice ca cn cc, .slice pa pn pc] 24)) fun e w' => e = .returned (.int .i64 (-1)) ∧ Below (w.alloc (.cells #[.int .i64 k, .int .i64 d, .int .i64 wd, .int .i64 hi, .slice ca cn cc, .slice pa pn pc] 24)).heap.size (w.alloc (.cells #[.int .i64 k, .int .i64 d, .int .i64 wd, .int .i64 hi, .slice ca cn cc, .slice pa pn pc] 24)) w') := szImage_big k d wd hi ca cn cc pa pn pc _ (by omega) (by omega) hbig
    clear hIc hIp hcn hpn
    go_enter Try.func3, Try.ntmps3
    go_wp2_with fail
    refine HZ.out.mono ?_
    rintro e w1 ⟨rfl, b1⟩
    have bel1 := hB0.trans (b1.mono (by simp))
    clear b1 HZ hB0
    go_wp2_with fail
    go_ret
    exact ⟨rfl, bel1⟩
  · refine exBmpPut_core k d wd hi ca cn cc pa pn pc bo ⟨(Bm.ans k d wd hi cs ps bo).toArray⟩ cs ps w hIc hIp hcn hpn (by omega) ?_ ?_
    · exact fun x y w' h1 h2 => spec_bmpPut k d wd hi x cn cn y pn pn cs ps bo w' h1 hcn (by omega) h2 hpn (Nat.le_refl _) (by omega)
    · exact fun x y w' h1 h2 => impl_bmpPut k d wd hi x cn cn y pn pn cs ps bo w' h1 hcn (by omega) h2 hpn (by omega)
end Go.Proofs.Ytcgmmpfckmhahaa
