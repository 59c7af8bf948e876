/- All tokens of a text, collected. -/
import Derived.Test.YtmfnepibhhhdcaaTyIter
import Derived.Test.YtmfnepibhhhdcaaTyMath
import Derived.Test.YtmfnepibhhhdcaaTkSpec
import Derived.Maps.AppendAt
namespace Go.Proofs.Ytmfnepibhhhdcaa
open Go.RowKit Go.Shelf Go.Maps

attribute [local go_sem] Oper.semAt_some

/-- the tokens so far, in a box; what was written last lies below m -/
def TcI (w0 : World) (pre : List Tk) (m : Nat) (W : World) : Prop :=
  (∃ v, Boxed W w0.heap.size 31 v ∧ OwnK W w0.heap.size v pre.length pre ∧ (v = .slice none 0 0 ↔ pre = []) ∧ ∀ j, v.ownBlock = some j → j < m) ∧ Below w0.heap.size w0 W
theorem ownK_block {W : World} {B n j : Nat} {v : Value} {l : List Tk} (h : OwnK W B v n l) (e : v.ownBlock = some j) : B ≤ j ∧ ∃ cur, W.heap[j]? = some (.cells cur 39 (0, 0)) := by
  rcases h.2 with ⟨rfl, _⟩ | ⟨g, cap, cur, rfl, hg, hgb, _⟩
  · simp [Value.ownBlock] at e
  · obtain rfl : g = j := by simpa [Value.ownBlock] using e
    exact ⟨hg, cur, hgb⟩
theorem TcI.grown {w0 : World} {pre : List Tk} {m : Nat} {X Y : World} {row : Option Nat} (h : TcI w0 pre m X) (hg : X.grownBy Y row) (hr : ∀ r, row = some r → w0.heap.size + 1 ≤ r ∧ ∃ o : Obj, X.heap[r]? = some o ∧ o.isCells = false) : TcI w0 pre m Y := by
  obtain ⟨⟨v, hv, ho, hn, hm⟩, hb⟩ := h
  refine ⟨⟨v, hv.kept hg (fun e => by have := (hr _ e.symm).1; omega), World.ownsRow.kept (show World.ownsRow _ _ _ _ _ _ _ from ho) hg ?_, hn, hm⟩, hb.grown hg hb.size (fun r e => by have := (hr r e).1; omega)⟩
  cases hv' : v.ownBlock with
  | none => exact .inl rfl
  | some j =>
    refine .inr (fun e => ?_)
    obtain ⟨_, cur, hc⟩ := ownK_block ho hv'
    obtain ⟨_, o, ho', hcells⟩ := hr j e.symm
    rw [hc] at ho'; cases ho'; cases hcells
theorem TcI.turn {w0 : World} {pre : List Tk} {m B : Nat} {X Y : World} (h : TcI w0 pre m X) (hB : w0.heap.size + 1 ≤ B) (ht : Tn B X Y) : TcI w0 pre m Y := by
  obtain ⟨⟨v, hv, ho, hn, hm⟩, hb⟩ := h
  refine ⟨⟨v, (ht.low.block _ (by omega)).trans hv, ⟨ho.1, ?_⟩, hn, hm⟩, hb.trans (ht.low.mono (by omega))⟩
  rcases ho.2 with h2 | ⟨g, cap, cur, hv, hg, hh, r⟩
  · exact .inl h2
  · exact .inr ⟨g, cap, cur, hv, hg, ht.same g _ hh (by show (39 : TypeId) ≠ 3; decide), r⟩

theorem KpT.trans {Bt m : Nat} {X Y Z : World} (h : KpT Bt m X Y) (k : KpT Bt m Y Z) : KpT Bt m X Z :=
  ⟨Nat.le_trans h.size k.size, fun i h1 h2 => (k.late i h1 (by have := h.size; omega)).trans (h.late i h1 h2), fun i o h1 h2 => k.mine i o (h.mine i o h1 h2) h2, k.text.trans h.text⟩
theorem KpT.alloc {Bt m : Nat} (X : World) (o : Obj) (hb : Bt < X.heap.size) : KpT Bt m X (X.alloc o) :=
  ⟨by simp, fun k _ h => Below.heap_alloc X o k h, fun k _ h _ => (Below.heap_alloc X o k (Array.getElem?_eq_some_iff.1 h).1).trans h, Below.heap_alloc X o Bt hb⟩
theorem KpT.book {Bt m l : Nat} {X : World} {L : Loop} (o' : Obj) (h : X.heap[l]? = some (.loop L)) (hm : l < m) (hb : Bt ≠ l) : KpT Bt m X (X.putObj l o') :=
  ⟨by simp, fun k h1 _ => World.putObj_heap_other (by omega), fun k o h1 h2 => by
    by_cases e : k = l
    · subst e; rw [h] at h1; cases h1; exact absurd trivial h2
    · exact (World.putObj_heap_other (by omega)).trans h1, World.putObj_heap_other (by omega)⟩
/-- how a round must be left -/
def tokPost (B Bt m : Nat) (w0 : World) (xs : List Tk) (W : World) : Exit → Act → World → Prop
  | .normal, _, W' => KeepsFrom B W W' ∧ KpT Bt m W W' ∧ TcI w0 xs W'.heap.size W'
  | _, _, _ => False

set_option maxHeartbeats 1000000 in
theorem rangeTok {g : Operand} {ps : Array Tmp} {assign body : Code} {Q : Exit → Act → World → Prop} {a : Act} {w w0 : World} {Bt : Nat} {s : ByteArray} (hs : s.size ≤ 5000)
    (hg : a.eval g = .func (.func 84) #[] #[.pointer (some ⟨Bt, 0, none⟩)]) (hps : ps.size = 1) (hw : w.heap.size = w0.heap.size + 1) (h0 : TcI w0 [] (w0.heap.size + 3) w) (hbt : Bt < w0.heap.size) (hc : w.cell? ⟨Bt, 0, none⟩ = some (.string s))
    (a₁ : Tk → World → Act)
    (hassign : ∀ (l : Nat) (x : Tk) (W : World) (K : Act → World → Prop), K (a₁ x W) (W.alloc (.cells #[.int .i64 x.1, .int .i64 x.2.1, .int .i64 x.2.2] 39)) →
      assign.wpIn (Fence.wide.inRound l) 0 Try.prog (Exit.then K (fun _ _ _ => False)) { tmps := (ps.zip #[tkV x]).foldl (fun t (p, v) => t.setIfInBounds p v) a.tmps, defers := [] } W)
    (hbody : ∀ (l : Nat) (pre : List Tk) (x : Tk) (m : Nat) (W Wb : World), TcI w0 pre m Wb → w0.heap.size + 3 ≤ m → m ≤ W.heap.size → Wb.heap.size = W.heap.size + 1 → Wb.heap[W.heap.size]? = some (.cells #[.int .i64 x.1, .int .i64 x.2.1, .int .i64 x.2.2] 39 (0, 0)) → pre.length < 5000 →
      body.wpIn (Fence.wide.inRound l) 0 Try.prog (tokPost w.heap.size Bt m w0 (pre ++ [x]) Wb) (a₁ x W) Wb)
    (hdone : ∀ (D : Nat) (W : World) (m : Nat), w.heap.size ≤ D → TcI w0 (Ty.from_ s 0) m W → W.heap[D]? = some (.deferred (some [])) → Q .normal { a with defers := { target := .collected D, args := #[] } :: a.defers } W) :
    (Code.rangeFunc g ps assign body).wpIn Fence.wide 2 Try.prog Q a w := by
  have hro : Fence.wide.round = none := rfl
  have eg : ∀ args w, (callFunc 84 args).run Try.prog w = .ok (.enter 84 args) w := enters_of Try.func84 (by kernel_rfl) rfl
  refine wpIn_rangeFunc ?_
  intro fn hfn
  rw [hro]
  obtain ⟨rec, hrec⟩ : ∃ rec : LoopState → Option Code → Loop, rec = fun st pe => { state := st, pending := pe, fn, tmps := a.tmps, params := ps, assign, body, defers := w.heap.size } := ⟨_, rfl⟩
  obtain ⟨W1, hW1⟩ : ∃ W1, (w.alloc (.deferred (some []))).alloc (.loop (rec .ready none)) = W1 := ⟨_, rfl⟩
  have hL1 : W1.heap[w.heap.size + 1]? = some (.loop (rec .ready none)) := by
    rw [← hW1]; have := heap_alloc_new (w.alloc (.deferred (some []))) (.loop (rec .ready none)); rwa [World.size_alloc] at this
  have hK1 : W1.heap[w.heap.size]? = some (.deferred (some [])) := by
    rw [← hW1]; exact (Below.heap_alloc _ _ _ (by simp)).trans (heap_alloc_new w _)
  have hs1 : W1.heap.size = w0.heap.size + 3 := by rw [← hW1, World.size_alloc, World.size_alloc, hw]
  have hI1 : TcI w0 [] W1.heap.size W1 := by
    rw [hs1, ← hW1]
    exact (h0.grown (World.grownBy_alloc w _ none) (fun r e => by cases e)).grown (World.grownBy_alloc _ _ none) (fun r e => by cases e)
  have hb1 : Below w.heap.size w W1 := by rw [← hW1]; exact ((Below.refl _ w).alloc (Nat.le_refl _) _).alloc (by simp) _
  have hc1 : W1.cell? ⟨Bt, 0, none⟩ = some (.string s) := (hb1.cell (p := ⟨Bt, 0, none⟩) (by show Bt < _; omega)).trans hc
  refine ⟨w.heap.size + 1, [{ target := .collected w.heap.size, args := #[] }], W1, { target := .fn (.func 84) #[.pointer (some ⟨Bt, 0, none⟩)], args := #[.func (.yield (w.heap.size + 1)) #[] #[]] }, W1, 84,
    #[.func (.yield (w.heap.size + 1)) #[] #[], .pointer (some ⟨Bt, 0, none⟩)], W1, ?_, ?_, ?_, ?_, fun _ => by omega, ?_⟩
  · rw [← hW1, hrec]; exact run_enterLoop_outer _ _ _ _ _
  · simp only [resolve, hg]
    simp [go_sem]
  · intro f' hf'; simp [Target.leads] at hf'; subst hf'; trivial
  · simp [invoke, go_sem, eg]
  · refine (tokensIn1_in 1 (Nat.le_refl _) (w.heap.size + 1) Bt s hs
      (fun pre m W => TcI w0 pre m W ∧ w0.heap.size + 3 ≤ m ∧ W.heap[w.heap.size + 1]? = some (.loop (rec .ready none)) ∧ W.heap[w.heap.size]? = some (.deferred (some [])))
      W1 ?_ ?_ (by omega) hc1 ⟨hI1, by omega, hL1, hK1⟩).mono ?_
    · rintro pre m X Y ⟨k1, k2, k3, k4⟩ ht
      exact ⟨k1.turn (by omega) ht, k2, ht.same _ _ k3 trivial, ht.same _ _ k4 trivial⟩
    · rintro pre x m W ⟨hi, hm3, hl, hk⟩ hm hlen
      have hlt : w.heap.size + 1 < W.heap.size := (Array.getElem?_eq_some_iff.1 hl).1
      have hy := run_yield (P := Try.prog) (args := #[tkV x]) hl (by rw [hrec]; simp [hps])
      rw [hrec] at hy
      obtain ⟨Wa, hWa⟩ : ∃ Wa, Wa = W.alloc (.cells #[.int .i64 x.1, .int .i64 x.2.1, .int .i64 x.2.2] 39) := ⟨_, rfl⟩
      have hla : Wa.heap[w.heap.size + 1]? = some (.loop (rec .ready none)) := by rw [hWa]; exact (Below.heap_alloc _ _ _ hlt).trans hl
      have hka : Wa.heap[w.heap.size]? = some (.deferred (some [])) := by rw [hWa]; exact (Below.heap_alloc _ _ _ (by omega)).trans hk
      have hia : TcI w0 pre m Wa := by rw [hWa]; exact hi.grown (World.grownBy_alloc _ _ none) (fun r e => by cases e)
      have hsa : Wa.heap.size = W.heap.size + 1 := by rw [hWa]; simp
      have hna : Wa.heap[W.heap.size]? = some (.cells #[.int .i64 x.1, .int .i64 x.2.1, .int .i64 x.2.2] 39 (0, 0)) := by rw [hWa]; exact heap_alloc_new _ _
      have hkpa : KpT Bt m W Wa := by rw [hWa]; exact KpT.alloc _ _ (by omega)
      refine ⟨fn, _, assign, body, hy, roundIn_of_wpIn hfn (hassign _ x W _ ?_)⟩
      rw [← hWa]
      refine ⟨_, run_beginRound hla (by rw [hrec]), ?_⟩
      have hl2 : (Wa.putObj (w.heap.size + 1) (.loop { rec .ready none with state := .busy })).heap[w.heap.size + 1]? = some (.loop { rec .ready none with state := .busy }) := World.putObj_heap_same (by omega)
      have hk2 : (Wa.putObj (w.heap.size + 1) (.loop { rec .ready none with state := .busy })).heap[w.heap.size]? = some (.deferred (some [])) := (World.putObj_heap_other (by omega)).trans hka
      have hkp2 := KpT.book (Bt := Bt) (m := m) (.loop { rec .ready none with state := .busy }) hla (by omega) (by omega)
      have hi2 : TcI w0 pre m (Wa.putObj (w.heap.size + 1) (.loop { rec .ready none with state := .busy })) := hia.grown (grownBy_putObj' _ _ _) (fun r e => by cases e; exact ⟨by omega, _, hla, rfl⟩)
      refine wpIn_mono (hbody _ pre x m W _ hi2 hm3 hm (by simp [hsa]) ((World.putObj_heap_other (by omega)).trans hna) hlen) ?_
      rintro e a3 W3 hp
      cases e with
      | normal =>
        obtain ⟨hk3, hkp3, hi3⟩ := hp
        have hl3 := hk3.same _ _ (by omega) hl2 rfl
        have hr := run_endRound (P := Try.prog) none hl3
        have hl4 : (W3.putObj (w.heap.size + 1) (.loop (rec .ready none))).heap[w.heap.size + 1]? = some (.loop (rec .ready none)) := World.putObj_heap_same (Array.getElem?_eq_some_iff.1 hl3).1
        have hk4 : (W3.putObj (w.heap.size + 1) (.loop (rec .ready none))).heap[w.heap.size]? = some (.deferred (some [])) := (World.putObj_heap_other (by omega)).trans (hk3.same _ _ (Nat.le_refl _) hk2 rfl)
        have hs3 := hkp3.size
        have hr' : (Instr.endRound (w.heap.size + 1) none).run Try.prog W3 = .ok (.bool true) (W3.putObj (w.heap.size + 1) (.loop (rec .ready none))) := by rw [hrec] at hr ⊢; exact hr
        have hsz : (W3.putObj (w.heap.size + 1) (.loop (rec .ready none))).heap.size = W3.heap.size := by simp
        have hsb : Wa.heap.size ≤ (Wa.putObj (w.heap.size + 1) (.loop { rec .ready none with state := .busy })).heap.size := by simp
        refine ⟨_, _, hr', rfl, ⟨?_, ?_, hl4, hk4⟩, ?_⟩
        · rw [hsz]
          exact hi3.grown (grownBy_putObj' W3 (w.heap.size + 1) (.loop (rec .ready none))) (fun r e => by cases e; exact ⟨by omega, _, hl3, rfl⟩)
        · have h9 := Nat.le_trans hsb hs3
          have e9 : (W3.putObj (w.heap.size + 1) (.loop (rec .ready none))).heap.size = W3.heap.size := hsz
          show w0.heap.size + 3 ≤ (W3.putObj (w.heap.size + 1) (.loop (rec .ready none))).heap.size
          omega
        · exact (hkpa.trans hkp2).trans (hkp3.trans (KpT.book (.loop (rec .ready none)) hl3 (by omega) (by omega)))
      | ret => exact hp.elim
      | exit id => exact hp.elim
      | goto t => exact hp.elim
      | panic ch => exact hp.elim
      | outgrown => exact hp.elim
    · rintro e W2 ⟨⟨v, rfl⟩, m, hi, _, hl, hk⟩
      refine ⟨none, _, by have := run_endLoop (P := Try.prog) hl (by rw [hrec]; simp); rw [hrec] at this; exact this, hdone _ _ m (Nat.le_refl _) ?_ ?_⟩
      · exact hi.grown (grownBy_putObj' _ _ _) (fun r e => by cases e; exact ⟨by omega, _, hl, rfl⟩)
      · exact (World.putObj_heap_other (by omega)).trans hk

set_option maxRecDepth 100000 in
set_option maxHeartbeats 4000000 in
theorem appendTok_in (Bt : Nat) (s : ByteArray) (hs : s.size ≤ 5000) (w : World) (hbt : Bt < w.heap.size) (hc : w.cell? ⟨Bt, 0, none⟩ = some (.string s)) :
    CallsIn Fence.wide 2 Try.prog 83 #[.slice none 0 0, .func (.func 84) #[] #[.pointer (some ⟨Bt, 0, none⟩)]] w fun e W' => ∃ v, e = .returned v ∧ OwnK W' w.heap.size v (Ty.from_ s 0).length (Ty.from_ s 0) ∧ (v = .slice none 0 0 ↔ Ty.from_ s 0 = []) ∧ Below w.heap.size w W' := by
  have hro : Fence.wide.round = none := rfl
  obtain ⟨i0, hi, hz0, hz1, hz2⟩ := info_parts info_tok
  refine callsIn_of_wp_marks Try.func83 rfl trivial ?_ hro
  simp only [Try.ntmps83, List.size_toArray, List.length_cons, List.length_nil, Nat.reduceAdd, Nat.reduceSub, Array.replicate_succ, Array.replicate_zero, List.push_toArray, List.append_toArray, List.nil_append, List.cons_append]
  gi_wp2
  have bO := Boxed.new w 31 (.slice none 0 0)
  have hB0 : Below w.heap.size w (w.alloc (.cells #[.slice none 0 0] 31)) := (Below.refl _ w).alloc (Nat.le_refl _) _
  have hI0 : TcI w [] (w.heap.size + 3) (w.alloc (.cells #[.slice none 0 0] 31)) := ⟨⟨_, bO, World.ownsRow_nil _ _ _ _, by simp, fun j e => by simp [Value.ownBlock] at e⟩, hB0⟩
  have hsz : (w.alloc (.cells #[.slice none 0 0] 31)).heap.size = w.heap.size + 1 := by simp
  have hc0 : (w.alloc (.cells #[.slice none 0 0] 31)).cell? ⟨Bt, 0, none⟩ = some (.string s) := (hB0.cell (p := ⟨Bt, 0, none⟩) hbt).trans hc
  generalize w.alloc (.cells #[.slice none 0 0] 31) = w' at *
  refine rangeTok (Bt := Bt) (s := s) (w0 := w) hs rfl rfl hsz hI0 hbt hc0
    (fun x W => { tmps := #[.slice none 0 0, .func (.func 84) #[] #[.pointer (some ⟨Bt, 0, none⟩)], .pointer (some ⟨w.heap.size, 0, none⟩), undef, .slice none 0 0, .pointer (some ⟨W.heap.size, 0, none⟩), .func (.func 84) #[] #[.pointer (some ⟨Bt, 0, none⟩)], tkV x, undef, undef, undef, undef, undef], defers := [] }) ?assign ?body ?done
  case assign =>
    intro l x W K hK
    dsimp only [tkV] at hK ⊢
    gi_wp2
    exact hK
  case body =>
    rintro l pre ⟨t0, t1, t2⟩ m W Wb ⟨⟨v, hv, ho, hnil, hvm⟩, hB⟩ hm3 hm hWb hx hlen
    dsimp only at hx
    have HWB : Hid (Wb.heap.size = W.heap.size + 1) := hWb
    have hWs : w.heap.size ≤ Wb.heap.size := by omega
    have hmW : m ≤ Wb.heap.size := by omega
    clear hWb
    have hbc := hv.cell
    obtain ⟨⟨e0, e1, e2⟩, _⟩ := box3 hx
    have hml := (show OwnK Wb w.heap.size v pre.length pre from ho)
    have hone : ∀ u ∈ [Value.int .i64 t0, Value.int .i64 t1, Value.int .i64 t2], u.oneCell' = true := by intro u hu; simp at hu; rcases hu with rfl | rfl | rfl <;> rfl
    have h63 : pre.length + 1 ≤ maxLen := by unfold maxLen; omega
    dsimp only [tkV]
    gi_wp2_with (gi_at_builtin; refine wpListIn_append_own _ rfl _ _ 31 rfl w.heap.size 39 i0 (.agg #[.int .i64 0, .int .i64 0, .int .i64 0]) 3 24 Try.underlying31 hi hz0 hz1 hz2 rfl (by decide) _ _ _ rfl (World.ownsRow.alloc (show World.ownsRow _ _ _ _ _ _ _ from ho) _) ⟨Wb.heap.size, 0, none⟩ 1 1 [.int .i64 t0, .int .i64 t1, .int .i64 t2] rfl rfl (World.news_of_block (heap_alloc_new _ _)) hone h63 (by omega) (by simp; omega) ?_; intro v' wB hown' hgrow hnil'; obtain ⟨g', cap', rfl⟩ := ownsRow_succ hown'; have hvA := (hv.alloc (.cells #[.int .i64 t0, .int .i64 t1, .int .i64 t2] 39)).kept hgrow (hv.not_row (by decide) (show World.ownsRow _ _ _ _ _ _ _ from ho)); have hcA := hvA.cell; have hfA := hvA.frozen)
    obtain ⟨_, hv2, hr2, hk2, hb2⟩ := hv.appended (by decide) (show World.ownsRow _ _ _ _ _ _ _ from ho) hWs (Nat.le_refl _) hown' hgrow
    obtain ⟨W', hW'⟩ : ∃ W', W' = wB.setCell ⟨w.heap.size, 0, none⟩ (.slice (some ⟨g', 0, none⟩) (pre.length + 1) cap') := ⟨_, rfl⟩
    have hoth : ∀ k, k < Wb.heap.size → k ≠ w.heap.size → some k ≠ v.ownBlock → W'.heap[k]? = Wb.heap[k]? := fun k h1 h2 h3 => by
      rw [hW']
      exact ((Below.heap_setCell wB ⟨w.heap.size, 0, none⟩ _ k h2).trans (hgrow.block k (by simp; omega) h3)).trans (Below.heap_alloc _ _ _ h1)
    rw [← hW'] at hv2 hr2 hk2 hb2 ⊢
    refine ⟨hk2.from _, ⟨hk2.size, fun k h1 h2 => hoth k h2 (by omega) (fun e => by have := hvm k e.symm; omega), fun k o h1 h2 => ?_, hb2.block Bt hbt⟩, ⟨⟨_, hv2, ?_, by simp, fun j e => ?_⟩, hB.trans hb2⟩⟩
    · refine (hoth k (Array.getElem?_eq_some_iff.1 h1).1 (fun e => ?_) (fun e => ?_)).trans h1
      · rw [e, show Wb.heap[w.heap.size]? = _ from hv] at h1
        cases h1
        exact h2 (by show (31 : TypeId) ≠ 3; decide)
      · obtain ⟨_, cur, hcur⟩ := ownK_block ho e.symm
        rw [hcur] at h1
        cases h1
        exact h2 (by show (39 : TypeId) ≠ 3; decide)
    · have h5 := OwnK.more hr2
      rw [List.length_append]
      exact h5
    · have h6 := (World.ownsRow.lt hr2 j e).2
      exact h6
  case done =>
    rintro D W m hD ⟨⟨v, hv, ho, hnil, _⟩, hB⟩ hK
    have hbc := hv.cell
    gi_wp2
    refine ⟨by simp, .inl ⟨_, _, rfl, run_takeDeferred hK, ?_⟩⟩
    exact ⟨_, results_tmp rfl _ _ _, v, rfl, ownsRow_putObj (show World.ownsRow _ _ _ _ _ _ _ from ho) _ hK rfl, hnil, hB.trans (belowK_b (w := w) (Nat.le_refl _) W D _ _ (by omega) hK rfl rfl)⟩

set_option maxHeartbeats 1000000 in
theorem collectTok (Bt : Nat) (s : ByteArray) (hs : s.size ≤ 5000) (w : World) (hbt : Bt < w.heap.size) (hc : w.cell? ⟨Bt, 0, none⟩ = some (.string s)) :
    Calls Try.prog 46 #[.func (.func 84) #[] #[.pointer (some ⟨Bt, 0, none⟩)]] w fun e W' => ∃ v, e = .returned v ∧ OwnK W' w.heap.size v (Ty.from_ s 0).length (Ty.from_ s 0) ∧ (v = .slice none 0 0 ↔ Ty.from_ s 0 = []) ∧ Below w.heap.size w W' := by
  have HA : Hid (Calls Try.prog 83 #[.slice none 0 0, .func (.func 84) #[] #[.pointer (some ⟨Bt, 0, none⟩)]] w fun e W' => ∃ v, e = .returned v ∧ OwnK W' w.heap.size v (Ty.from_ s 0).length (Ty.from_ s 0) ∧ (v = .slice none 0 0 ↔ Ty.from_ s 0 = []) ∧ Below w.heap.size w W') := callsIn_wide.1 (appendTok_in Bt s hs w hbt hc)
  clear hbt hc
  go_enter Try.func46, Try.ntmps46
  go_wp2_with fail
  refine HA.out.mono ?_
  rintro e w' ⟨v, rfl, hv, hnil, hb⟩
  go_wp2_with fail
  go_ret
  exact ⟨v, rfl, hv, hnil, hb⟩
set_option maxHeartbeats 1000000 in
theorem tokensIn_any (s : ByteArray) (w : World) :
    Calls Try.prog 47 #[.string s] w fun e w' => e = .returned (.func (.func 84) #[] #[.pointer (some ⟨w.heap.size, 0, none⟩)]) ∧ w' = w.alloc (.cells #[.string s] 9) := by
  go_enter Try.func47, Try.ntmps47
  go_wp2_with fail
  go_ret
  exact ⟨rfl, rfl⟩
/-- the answer of the program: nil where there is no token -/
def TkImp (w : World) (l : List Tk) (e : Ending) (w' : World) : Prop :=
  ∃ v : Value, e = .returned v ∧ OwnK w' w.heap.size v l.length l ∧ (v = .slice none 0 0 ↔ l = []) ∧ Below w.heap.size w w'
set_option maxHeartbeats 1000000 in
theorem impl_tokensOf (s : ByteArray) (w : World) (hs : s.size ≤ 2000000) :
    Calls Try.prog 15 #[.string s] w (TkImp w (if 5000 < s.size then [] else Ty.from_ s 0)) := by
  by_cases h : (s.size : Int) > 5000
  · have d : decide ((s.size : Int) > 5000) = true := decide_eq_true h
    have HF : Hid (TkImp w (if 5000 < s.size then [] else Ty.from_ s 0) (.returned (.slice none 0 0)) w) := by
      rw [if_pos (by omega)]
      exact ⟨_, rfl, World.ownsRow_nil _ _ _ _, by simp, Below.refl _ _⟩
    generalize (if 5000 < s.size then [] else Ty.from_ s 0) = l at *
    go_enter Try.func15, Try.ntmps15
    go_wp2_with fail
    go_ret
    exact HF.out
  · have d : decide ((s.size : Int) > 5000) = false := decide_eq_false h
    rw [if_neg (by omega)]
    have HC : Hid (∀ (Bt : Nat) (w : World), Bt < w.heap.size → w.cell? ⟨Bt, 0, none⟩ = some (.string s) → Calls Try.prog 46 #[.func (.func 84) #[] #[.pointer (some ⟨Bt, 0, none⟩)]] w fun e W' => ∃ v, e = .returned v ∧ OwnK W' w.heap.size v (Ty.from_ s 0).length (Ty.from_ s 0) ∧ (v = .slice none 0 0 ↔ Ty.from_ s 0 = []) ∧ Below w.heap.size w W') := fun Bt w h1 h2 => collectTok Bt s (by omega) w h1 h2
    have HT : Hid (∀ w, Calls Try.prog 47 #[.string s] w fun e w' => e = .returned (.func (.func 84) #[] #[.pointer (some ⟨w.heap.size, 0, none⟩)]) ∧ w' = w.alloc (.cells #[.string s] 9)) := tokensIn_any s
    generalize Ty.from_ s 0 = l at *
    go_enter Try.func15, Try.ntmps15
    go_wp2_with fail
    refine (HT.out _).mono ?_
    rintro e w1 ⟨rfl, hw1⟩
    have hs1 : w1.heap.size = w.heap.size + 1 := by rw [hw1]; simp
    have b1 : Below w.heap.size w w1 := by rw [hw1]; exact (Below.refl _ _).alloc (Nat.le_refl _) _
    have hc1 : w1.cell? ⟨w.heap.size, 0, none⟩ = some (.string s) := by rw [hw1, World.cell?_alloc_at _ _ _ _ rfl]; rfl
    have HCC := HC.out w.heap.size w1 (by omega) hc1
    clear hw1 hs1
    go_wp2_with fail
    refine HCC.mono ?_
    rintro e w2 ⟨v, rfl, hv, hnil, hb⟩
    have HF : Hid (TkImp w l (.returned v) w2) := ⟨v, rfl, ⟨hv.1, by
      rcases hv.2 with h2 | ⟨g, cap, cur, e1, hg, r⟩
      · exact .inl h2
      · exact .inr ⟨g, cap, cur, e1, Nat.le_trans b1.size hg, r⟩⟩, hnil, b1.trans (hb.mono b1.size)⟩
    clear hv hnil hb HCC
    go_wp2_with fail
    go_ret
    exact HF.out
end Go.Proofs.Ytmfnepibhhhdcaa
