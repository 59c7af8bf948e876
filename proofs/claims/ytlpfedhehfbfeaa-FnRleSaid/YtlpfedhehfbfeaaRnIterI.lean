/- The iterator over the stretches of a list (ints). -/
import Derived.Test.YtlpfedhehfbfeaaRnImplI
import Derived.Test.YtlpfedhehfbfeaaRnWent
namespace Go.Proofs.Ytlpfedhehfbfeaa
open Go.RowKit Go.Shelf
namespace RI

attribute [local go_sem] Oper.semAt_some

/-- a stretch as it is handed on -/
def enc (b off cap : Nat) (x : Nat × Nat × Bool) : Array Value := #[.agg #[.slice (some ⟨b, off + x.1, none⟩) x.2.1 (cap - x.1), .bool x.2.2]]

/-- what the iterator reads -/
structure Held (W : World) (a : Option Addr) (Bl Bm Bt b off cap N least m : Nat) (L : List Int) : Prop where
  hl : W.cell? ⟨Bl, 0, none⟩ = some (.slice a N cap)
  hm : W.cell? ⟨Bm, 0, none⟩ = some (.int .i64 (m : Int))
  ht : W.cell? ⟨Bt, 0, none⟩ = some (.int .i64 (least : Int))
  lies : Lies W b off L

theorem Held.kept {W W' : World} {a : Option Addr} {Bl Bm Bt b off cap N least m o n₀ : Nat} {L : List Int} (h : Held W a Bl Bm Bt b off cap N least m L) (hb : Beside o n₀ W W') (h1 : Bl < n₀) (h2 : Bm < n₀) (h3 : Bt < n₀) (h4 : b < n₀) (o1 : Bl ≠ o) (o2 : Bm ≠ o) (o3 : Bt ≠ o) (o4 : b ≠ o) : Held W' a Bl Bm Bt b off cap N least m L :=
  ⟨(World.cell?_of_block (w := W) (a := ⟨Bl, 0, none⟩) (hb.2 _ h1 o1)).trans h.hl, (World.cell?_of_block (w := W) (a := ⟨Bm, 0, none⟩) (hb.2 _ h2 o2)).trans h.hm, (World.cell?_of_block (w := W) (a := ⟨Bt, 0, none⟩) (hb.2 _ h3 o3)).trans h.ht,
   Nat.lt_of_lt_of_le h.lies.1 hb.1, fun i hi => (World.cell?_of_block (w := W) (a := ⟨b, off + i, none⟩) (hb.2 _ h4 o4)).trans (h.lies.2 i hi)⟩
theorem Held.drewN {W : World} {a : Option Addr} {Bl Bm Bt b off cap N least m : Nat} {L : List Int} (h : Held W a Bl Bm Bt b off cap N least m L) (q : Nat) : Held (W.drewN q) a Bl Bm Bt b off cap N least m L := ⟨h.hl, h.hm, h.ht, h.lies⟩

theorem grown_drewN (w : World) (q : Nat) : w.grownBy (w.drewN q) none := ⟨rfl, rfl, rfl, Nat.le_refl _, fun _ _ _ => rfl⟩

set_option maxRecDepth 100000 in
set_option maxHeartbeats 4000000 in
theorem stretches1_in (n : Nat) (hn : 1 ≤ n) (a : Option Addr) (l Bl Bm Bt b off cap N least m o n₀ : Nat) (L : List Int) (h1 : Bl < n₀) (h2 : Bm < n₀) (h3 : Bt < n₀) (h4 : b < n₀) (o1 : Bl ≠ o) (o2 : Bm ≠ o) (o3 : Bt ≠ o) (o4 : b ≠ o)
    (hN : L.length = N) (hNb : N ≤ 100000) (hlb : least ≤ 1000) (hmb : m ≤ 1000) (hm0 : 0 < m) (hcap : N ≤ cap) (ha : N = 0 ∨ a = some ⟨b, off, none⟩) (J Jx : List (Nat × Nat × Bool) → World → Prop)
    (W : World) (hJ : AbidesFrom W.heap.size J)
    (hY : ∀ pre x W, x.1 + x.2.1 ≤ N ∧ 1 ≤ x.2.1 ∧ x.2.1 ≤ m → J pre W → pre.length < (Rn.from_ least m L 0).length → YieldAt Fence.wide (n - 1) Try.prog l (enc b off cap x) W fun e W' =>
      (e = .returned (.bool true) ∧ J (pre ++ [x]) W' ∧ Beside o n₀ W W') ∨ (e = .returned (.bool false) ∧ Jx (pre ++ [x]) W'))
    (hH : Held W a Bl Bm Bt b off cap N least m L) (h0 : J [] W) :
    CallsIn Fence.wide n Try.prog 41 #[.func (.yield l) #[] #[], .pointer (some ⟨Bl, 0, none⟩), .pointer (some ⟨Bm, 0, none⟩), .pointer (some ⟨Bt, 0, none⟩)] W fun e W' => (∃ v, e = .returned v) ∧
      ((∃ ys, ys = Rn.from_ least m L 0 ∧ J ys W') ∨ (∃ pre, pre <+: Rn.from_ least m L 0 ∧ Jx pre W')) := by
  have hro : Fence.wide.round = none := rfl
  have HN : Hid (L.length = N) := hN
  clear hN
  have HY : Hid (∀ (pre : List (Nat × Nat × Bool)) (x : Nat × Nat × Bool) (W : World), x.1 + x.2.1 ≤ N ∧ 1 ≤ x.2.1 ∧ x.2.1 ≤ m → J pre W → pre.length < (Rn.from_ least m L 0).length → YieldAt Fence.wide (n - 1) Try.prog l (enc b off cap x) W fun e W' =>
      (e = .returned (.bool true) ∧ J (pre ++ [x]) W' ∧ Beside o n₀ W W') ∨ (e = .returned (.bool false) ∧ Jx (pre ++ [x]) W')) := hY
  have HJ : Hid (AbidesFrom W.heap.size J) := hJ
  clear hY hJ
  refine callsIn_of_wp Try.func41 rfl trivial ?_ hro
  simp only [Try.ntmps41, List.size_toArray, List.length_cons, List.length_nil, Nat.reduceAdd, Nat.reduceSub, Array.replicate_succ, Array.replicate_zero, List.push_toArray, List.append_toArray, List.nil_append, List.cons_append]
  gi_wp2
  gi_loopw [5] (fun i wr => ∃ (k : Nat) (pre : List (Nat × Nat × Bool)), k ≤ N ∧ i = .int .i64 (k : Int) ∧ Hid (Rn.from_ least m L 0 = pre ++ Rn.from_ least m L k) ∧ J pre wr ∧ Held wr a Bl Bm Bt b off cap N least m L)
    (fun i _ => N - (intOf i).toNat)
  case atStart => exact ⟨0, [], Nat.zero_le _, rfl, rfl, h0, hH⟩
  case round =>
    obtain ⟨k, pre, hk, rfl, HX, hJk, hHk⟩ := hrel
    obtain ⟨c1, c2, c3, hL⟩ := id hHk
    by_cases hlt : k < N
    · obtain rfl : a = some ⟨b, off, none⟩ := by
        rcases ha with h | h
        · omega
        · exact h
      have hkl : k < L.length := by rw [HN.out]; exact hlt
      have hkc : k < cap := by omega
      have hdl : 0 < (L.drop k).length := by rw [List.length_drop]; omega
      have hdn : (L.drop k).length = N - k := by rw [List.length_drop, HN.out]
      have HS : Hid (Calls Try.prog 42 #[.slice (some ⟨b, off + k, none⟩) (N - k) (cap - k), .int .i64 (m : Int)] wr fun e w' => e = .returned (.int .i64 ((Rn.same (L.drop k) m : Nat) : Int)) ∧ ∃ q, w' = wr.drewN q) :=
        sameAhead_any b (off + k) (cap - k) (N - k) m (L.drop k) wr hdn (by omega) hmb (hL.drop k)
      have HU : Hid (∀ q, Calls Try.prog 43 #[.slice (some ⟨b, off + k, none⟩) (N - k) (cap - k), .int .i64 (least : Int), .int .i64 (m : Int)] (wr.drewN q) fun e w' => e = .returned (.int .i64 ((Rn.fresh (L.drop k) least m : Nat) : Int)) ∧ ∃ q', w' = (wr.drewN q).drewN q') :=
        fun q => upToSame_any b (off + k) (cap - k) (N - k) least m (L.drop k) _ hdn (by omega) hlb hmb ((hL.drop k).drewN q) (by omega)
      have hsz := Rn.size_ends (l := L.drop k) (least := least) (m := m) hdl hm0
      have HF := Rn.from_step (least := least) (m := m) (l := L) hm0 hkl
      have hszd : Rn.size least m (L.drop k) = if least ≤ Rn.same (L.drop k) m then Rn.same (L.drop k) m else Rn.fresh (L.drop k) least m := rfl
      have hagd : Rn.again least m (L.drop k) = decide (least ≤ Rn.same (L.drop k) m) := rfl
      rw [hdn] at hsz
      have hlen : pre.length < (Rn.from_ least m L 0).length := by rw [HX.out, HF]; simp
      generalize hzs : Rn.size least m (L.drop k) = z at *
      generalize hza : Rn.again least m (L.drop k) = ag at *
      generalize Rn.same (L.drop k) m = sm at *
      generalize Rn.fresh (L.drop k) least m = fr at *
      have HX2 : Hid (Rn.from_ least m L 0 = (pre ++ [(k, z, ag)]) ++ Rn.from_ least m L (k + z)) := by
        show _ = _
        rw [HX.out, HF]; simp
      clear HF HX hdl hkl hdn hL hzs hza
      obtain ⟨hz1, hz2, hz3⟩ := hsz
      have hJd : ∀ q, J pre (wr.drewN q) := fun q => HJ.out pre wr _ none hJk (grown_drewN wr q) (fun r e => by cases e)
      have HJd : Hid (∀ q, J pre (wr.drewN q)) := hJd
      clear hJd hJk
      by_cases hag : least ≤ sm
      · rw [if_pos hag] at hszd
        subst hszd
        have hd : decide (least ≤ z) = true := by simp; exact hag
        rw [hd] at hagd
        subst hagd
        have d3 : decide ((z : Int) ≥ (least : Int)) = true := by simp; exact hag
        clear HU
        gi_wp2
        refine ⟨trivial, ?_⟩
        gi_wp2
        refine (callsIn_wide.2 HS.out).mono ?_
        rintro e W2 ⟨rfl, q, rfl⟩
        clear HS
        obtain ⟨fn, tmps, assign, body, hy, hR⟩ := HY.out pre (k, z, true) _ ⟨by show k + z ≤ N; omega, hz1, hz3⟩ (HJd.out q) hlen
        have hHq := hHk.drewN q
        dsimp only [enc] at hy
        gi_wp2
        refine hR.mono ?_
        rintro e W3 (⟨rfl, hJ3, hk3⟩ | ⟨rfl, hJx3⟩)
        · gi_wp2
          go_roundw
          case rel => exact ⟨k + z, _, by omega, by go_num, HX2, hJ3, hHq.kept hk3 h1 h2 h3 h4 o1 o2 o3 o4⟩
          case measure => simp [intOf]; omega
        · gi_wp2
          refine bodyPost_ret (results_none rfl _ _ _) rfl ?_
          exact ⟨⟨_, rfl⟩, .inr ⟨_, ⟨_, HX2.out.symm⟩, hJx3⟩⟩
      · rw [if_neg hag] at hszd
        subst hszd
        have hd : decide (least ≤ sm) = false := by simp; omega
        rw [hd] at hagd
        subst hagd
        have d3 : decide ((sm : Int) ≥ (least : Int)) = false := by simp; omega
        gi_wp2
        refine ⟨trivial, ?_⟩
        gi_wp2
        refine (callsIn_wide.2 HS.out).mono ?_
        rintro e W2 ⟨rfl, q, rfl⟩
        clear HS
        gi_wp2
        refine ⟨trivial, ?_⟩
        gi_wp2
        refine (callsIn_wide.2 (HU.out q)).mono ?_
        rintro e W2 ⟨rfl, q2, rfl⟩
        clear HU
        obtain ⟨fn, tmps, assign, body, hy, hR⟩ := HY.out pre (k, z, false) _ ⟨by show k + z ≤ N; omega, hz1, hz3⟩ (HJd.out (q + q2)) hlen
        have hHq := hHk.drewN (q + q2)
        dsimp only [enc] at hy
        gi_wp2
        refine hR.mono ?_
        rintro e W3 (⟨rfl, hJ3, hk3⟩ | ⟨rfl, hJx3⟩)
        · gi_wp2
          go_roundw
          case rel => exact ⟨k + z, _, by omega, by go_num, HX2, hJ3, hHq.kept hk3 h1 h2 h3 h4 o1 o2 o3 o4⟩
          case measure => simp [intOf]; omega
        · gi_wp2
          refine bodyPost_ret (results_none rfl _ _ _) rfl ?_
          exact ⟨⟨_, rfl⟩, .inr ⟨_, ⟨_, HX2.out.symm⟩, hJx3⟩⟩
    · obtain rfl : k = N := by omega
      gi_wp2
      go_end0
      exact ⟨⟨_, rfl⟩, .inl ⟨_, by rw [HX.out, Rn.from_end (by rw [HN.out]; exact Nat.le_refl _), List.append_nil], hJk⟩⟩
/-- a stretch of a list of N, m at most -/
abbrev St (N m : Nat) := { x : Nat × Nat × Bool // x.1 + x.2.1 ≤ N ∧ 1 ≤ x.2.1 ∧ x.2.1 ≤ m }

theorem stretches_stops (n : Nat) (hn : 1 ≤ n) (a : Option Addr) (Bl Bm Bt b off cap N least m o n₀ : Nat) (L : List Int) (w : World) (h1 : Bl < n₀) (h2 : Bm < n₀) (h3 : Bt < n₀) (h4 : b < n₀) (o1 : Bl ≠ o) (o2 : Bm ≠ o) (o3 : Bt ≠ o) (o4 : b ≠ o) (hn₀ : n₀ ≤ w.heap.size)
    (hN : L.length = N) (hNb : N ≤ 100000) (hlb : least ≤ 1000) (hmb : m ≤ 1000) (hm0 : 0 < m) (hcap : N ≤ cap) (ha : N = 0 ∨ a = some ⟨b, off, none⟩) (hH : Held w a Bl Bm Bt b off cap N least m L) :
    SeqStopsK Fence.wide n Try.prog 41 #[.pointer (some ⟨Bl, 0, none⟩), .pointer (some ⟨Bm, 0, none⟩), .pointer (some ⟨Bt, 0, none⟩)] (fun x : St N m => enc b off cap x.1) (Beside o n₀)
      (fun ys => ys.map Subtype.val = Rn.from_ least m L 0) (fun pre => pre.map Subtype.val <+: Rn.from_ least m L 0) (Rn.from_ least m L 0).length w := by
  intro l J Jx W hW hJ _ hY h0
  refine (stretches1_in n hn a l Bl Bm Bt b off cap N least m o n₀ L h1 h2 h3 h4 o1 o2 o3 o4 hN hNb hlb hmb hm0 hcap ha
    (fun pre W => ∃ p : List (St N m), p.map Subtype.val = pre ∧ J p W) (fun pre W => ∃ p : List (St N m), p.map Subtype.val = pre ∧ Jx p W) W
    (fun s A B row hs hg hr => by obtain ⟨p, hp, hj⟩ := hs; exact ⟨p, hp, hJ p A B row hj hg hr⟩) ?_ ?_ ⟨[], rfl, h0⟩).mono ?_
  · rintro pre x W1 hx ⟨p, rfl, hj⟩ hlen
    obtain ⟨fn, tmps, assign, body, hy, hR⟩ := hY p ⟨x, hx⟩ W1 hj (by simpa using hlen)
    refine ⟨fn, tmps, assign, body, hy, hR.mono ?_⟩
    rintro e W' (⟨rfl, h2, h3⟩ | ⟨rfl, h2⟩)
    · exact .inl ⟨rfl, ⟨p ++ [⟨x, hx⟩], by simp, h2⟩, h3⟩
    · exact .inr ⟨rfl, ⟨p ++ [⟨x, hx⟩], by simp, h2⟩⟩
  · exact hH.kept (Beside.of (o := o) (hW.mono hn₀)) h1 h2 h3 h4 o1 o2 o3 o4
  · rintro e W' ⟨hv, h⟩
    refine ⟨hv, ?_⟩
    rcases h with ⟨ys, hy, p, hp, hj⟩ | ⟨pre, hpre, p, hp, hj⟩
    · exact .inl ⟨p, hp.trans hy, hj⟩
    · exact .inr ⟨p, by show p.map Subtype.val <+: _; rw [hp]; exact hpre, hj⟩

set_option maxHeartbeats 400000 in
theorem stretchesOf_any (a : Option Addr) (N cap : Nat) (least m : Int) (w : World) :
    Calls Try.prog 24 #[.slice a N cap, .int .i64 least, .int .i64 m] w fun e w' =>
      e = .returned (.func (.func 41) #[] #[.pointer (some ⟨w.heap.size, 0, none⟩), .pointer (some ⟨w.heap.size + 2, 0, none⟩), .pointer (some ⟨w.heap.size + 1, 0, none⟩)]) ∧
      w' = ((w.alloc (.cells #[.slice a N cap] 26)).alloc (.cells #[.int .i64 least] 3)).alloc (.cells #[.int .i64 m] 3) := by
  go_enter Try.func24, Try.ntmps24
  go_wp2_with fail
  go_ret
  exact ⟨rfl, rfl⟩
end RI
end Go.Proofs.Ytlpfedhehfbfeaa
