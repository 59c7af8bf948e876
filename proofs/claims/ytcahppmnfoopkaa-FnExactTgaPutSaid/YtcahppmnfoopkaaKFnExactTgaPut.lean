/- Texts laid together: RnImplI, RnWent, RnIterI, RoundReg, RtImpl, ExRunPut. -/
import Derived.Test.YtcahppmnfoopkaaRnMath
import Derived.RangeFuncNested
import Derived.RangeFuncBound
import Derived.RangeFuncCalls
import Derived.RangeFuncLeaves
import Derived.Shelf.Abstract
import Derived.Shelf.RegionOpen
import Derived.WalkKit
import Derived.OwnWalkIn
import Derived.TacticsInMore
import Derived.LoopNIn
import Derived.LoopIn
import Derived.Test.YtcahppmnfoopkaaProg
import Derived.RangeFuncBox
import Derived.Test.YtcahppmnfoopkaaBase
import Derived.Deep.RegionHeld
import Derived.Test.YtcahppmnfoopkaaRtText
import Derived.Maps.AppendAt
import Derived.Test.YtcahppmnfoopkaaRtSpec
import Derived.Test.YtcahppmnfoopkaaRow64
import Derived.Test.YtcahppmnfoopkaaInWalks
import Derived.Test.YtcahppmnfoopkaaPowWalks
/- Stretches of a list, as the program reads them in memory: sameAhead, upToSame (ints). -/
namespace Go.Proofs.Ytcahppmnfoopkaa
open Go.RowKit Go.Shelf
namespace RI

/-- the list l lies in the block b from off on -/
def Lies (w : World) (b off : Nat) (l : List Int) : Prop := b < w.heap.size ∧ ∀ i (h : i < l.length), w.cell? ⟨b, off + i, none⟩ = some (.int .i64 l[i])
theorem Lies.drop {w : World} {b off : Nat} {l : List Int} (h : Lies w b off l) (k : Nat) : Lies w b (off + k) (l.drop k) :=
  ⟨h.1, fun i hi => by
    have := h.2 (k + i) (by rw [List.length_drop] at hi; omega)
    rw [List.getElem_drop, Nat.add_assoc]; exact this⟩
theorem Lies.drewN {w : World} {b off : Nat} {l : List Int} (h : Lies w b off l) (m : Nat) : Lies (w.drewN m) b off l := h

set_option maxHeartbeats 1000000 in
theorem sameAhead_any (b off cap n m : Nat) (l : List Int) (w : World) (hn : l.length = n) (hl : n ≤ 2000000) (hm : m ≤ 1000) (h : Lies w b off l) :
    Calls Try.prog 73 #[.slice (some ⟨b, off, none⟩) n cap, .int .i64 (m : Int)] w fun e w' => e = .returned (.int .i64 ((Rn.same l m : Nat) : Int)) ∧ ∃ q, w' = w.drewN q := by
  have HL : Hid (Lies w b off l) := h
  have HN : Hid (l.length = n) := hn
  clear h hn
  go_enter Try.func73, Try.ntmps73
  go_wp2_with fail
  go_loopw [5] (fun i wr => ∃ k : Nat, k ≤ n ∧ k ≤ m ∧ i = .int .i64 (k : Int) ∧ (∀ j, j < k → Rn.sameP l m j = true) ∧ ∃ q, wr = w.drewN q) (fun i _ => n - (intOf i).toNat)
  case atStart => exact ⟨0, Nat.zero_le _, Nat.zero_le _, rfl, fun j hj => by omega, 0, rfl⟩
  case round =>
    obtain ⟨k, hk, hkm, rfl, hall, q, rfl⟩ := hrel
    have HA : Hid (∀ j, j < k → Rn.sameP l m j = true) := hall
    clear hall
    have hend : (Rn.sameP l m k = false) → k = Rn.same l m := fun h => Rn.same_eq h HA.out (by have := HN.out; omega)
    have HE : Hid ((Rn.sameP l m k = false) → k = Rn.same l m) := hend
    clear hend
    by_cases h1 : k < n
    · by_cases h2 : k < m
      · have hk' : k < l.length := by rw [HN.out]; exact h1
        have h0' : 0 < l.length := by omega
        have hcx := HL.out.2 k hk'
        have hcy := HL.out.2 0 h0'
        simp only [Nat.add_zero] at hcy
        have HX : Hid (l[k]? = some l[k] ∧ l[0]? = some l[0]) := ⟨List.getElem?_eq_getElem hk', List.getElem?_eq_getElem h0'⟩
        have d1 : decide ((k : Int) < (n : Int)) = true := by simp; exact h1
        have d2 : decide ((k : Int) < (m : Int)) = true := by simp; exact h2
        have h0n : (0 : Nat) < n := by omega
        generalize l[k] = x at *
        generalize l[0] = y at *
        by_cases h3 : x = y
        · subst h3
          have HS : Hid (Rn.sameP l m k = true) := by
            show _ = _
            unfold Rn.sameP; rw [HX.out.1, HX.out.2, HN.out]; simp [h1, h2]
          clear HX HL
          go_wp2_with fail
          go_region
          all_goals go_wp2_with fail
          all_goals
            go_roundw
            case rel => exact ⟨k + 1, by omega, by omega, by go_num, fun j hj => (by
              by_cases e : j = k
              · rw [e]; exact HS.out
              · exact HA.out j (by omega)), q + 1, rfl⟩
            case measure => simp [intOf]; omega
        · have HS : Hid (k = Rn.same l m) := HE.out (by unfold Rn.sameP; rw [HX.out.1, HX.out.2]; simp [h3])
          have d3 : decide (x = y) = false := by simp [h3]
          clear HX HL HE
          go_wp2_with fail
          go_region
          all_goals go_wp2_with fail
          all_goals
            go_ret
            exact ⟨by rw [← HS.out]; rfl, q + 1, rfl⟩
      · have HS : Hid (k = Rn.same l m) := HE.out (by simp [Rn.sameP, h2])
        have d1 : decide ((k : Int) < (n : Int)) = true := by simp; exact h1
        have d2 : decide ((k : Int) < (m : Int)) = false := by simp; omega
        clear HL HE
        go_wp2_with fail
        go_region
        all_goals go_wp2_with fail
        all_goals
          go_ret
          exact ⟨by rw [← HS.out]; rfl, q + 1, rfl⟩
    · have HS : Hid (k = Rn.same l m) := HE.out (by simp [Rn.sameP, HN.out, h1])
      have d1 : decide ((k : Int) < (n : Int)) = false := by simp; omega
      clear HL HE
      go_wp2_with fail
      go_region
      all_goals go_wp2_with fail
      all_goals
        go_ret
        exact ⟨by rw [← HS.out]; rfl, q + 1, rfl⟩

set_option maxHeartbeats 1000000 in
theorem upToSame_any (b off cap n least m : Nat) (l : List Int) (w : World) (hn : l.length = n) (hl : n ≤ 2000000) (hl1 : least ≤ 1000) (hm : m ≤ 1000) (h : Lies w b off l) (hc : n ≤ cap) :
    Calls Try.prog 74 #[.slice (some ⟨b, off, none⟩) n cap, .int .i64 (least : Int), .int .i64 (m : Int)] w fun e w' => e = .returned (.int .i64 ((Rn.fresh l least m : Nat) : Int)) ∧ ∃ q, w' = w.drewN q := by
  have HL : Hid (Lies w b off l) := h
  have HN : Hid (l.length = n) := hn
  clear h hn
  go_enter Try.func74, Try.ntmps74
  go_wp2_with fail
  go_loopw [7] (fun i wr => ∃ k : Nat, 1 ≤ k ∧ k ≤ n + 1 ∧ i = .int .i64 (k : Int) ∧ (∀ j, 1 ≤ j → j < k → Rn.freshP l least m j = true) ∧ ∃ q, wr = w.drewN q) (fun i _ => n + 1 - (intOf i).toNat)
  case atStart => exact ⟨1, Nat.le_refl _, by omega, rfl, fun j _ hj => by omega, 0, rfl⟩
  case round =>
    obtain ⟨k, hk1, hk, rfl, hall, q, rfl⟩ := hrel
    have HA : Hid (∀ j, 1 ≤ j → j < k → Rn.freshP l least m j = true) := hall
    clear hall
    have HE : Hid ((Rn.freshP l least m k = false) → k = Rn.fresh l least m) := fun h => Rn.fresh_eq h hk1 HA.out (by have := HN.out; omega)
    by_cases h1 : k < n
    · have hkc : k < cap := by omega
      have d1 : decide ((k : Int) < (n : Int)) = true := by simp; exact h1
      by_cases h2 : k < m
      · have d2 : decide ((k : Int) < (m : Int)) = true := by simp; exact h2
        have HC : Hid (Calls Try.prog 73 #[.slice (some ⟨b, off + k, none⟩) (n - k) (cap - k), .int .i64 (least : Int)] (w.drewN q) fun e w' => e = .returned (.int .i64 ((Rn.same (l.drop k) least : Nat) : Int)) ∧ ∃ q', w' = (w.drewN q).drewN q') :=
          sameAhead_any b (off + k) (cap - k) (n - k) least (l.drop k) _ (by rw [List.length_drop, HN.out]) (by omega) hl1 ((HL.out.drop k).drewN q)
        have HP : Hid (Rn.freshP l least m k = decide (Rn.same (l.drop k) least < least)) := by
          show _ = _
          unfold Rn.freshP; rw [HN.out]; simp [h1, h2]
        clear HL
        generalize Rn.same (l.drop k) least = z at *
        have hzk : z < least ∨ ¬ z < least := by omega
        rcases hzk with hz | hz
        · have d3 : decide ((z : Int) < (least : Int)) = true := by simp; exact hz
          go_wp2_with fail
          refine HC.out.mono ?_
          rintro e w1 ⟨rfl, q1, hw⟩
          clear HC
          subst hw
          go_wp2_with fail
          go_roundw
          case rel => exact ⟨k + 1, by omega, by omega, by go_num, fun j hj1 hj => (by
              by_cases e : j = k
              · rw [e, HP.out]; simp [hz]
              · exact HA.out j hj1 (by omega)), q + q1, rfl⟩
          case measure => simp [intOf]; omega
        · have d3 : decide ((z : Int) < (least : Int)) = false := by simp; omega
          have HS : Hid (k = Rn.fresh l least m) := HE.out (by rw [HP.out]; simp; omega)
          go_wp2_with fail
          refine HC.out.mono ?_
          rintro e w1 ⟨rfl, q1, hw⟩
          clear HC HE
          subst hw
          go_wp2_with fail
          go_ret
          exact ⟨by rw [← HS.out]; rfl, q + q1, rfl⟩
      · have HS : Hid (k = Rn.fresh l least m) := HE.out (by simp [Rn.freshP, h2])
        have d2 : decide ((k : Int) < (m : Int)) = false := by simp; omega
        clear HL HE
        go_wp2_with fail
        go_ret
        exact ⟨by rw [← HS.out]; rfl, q, rfl⟩
    · have HS : Hid (k = Rn.fresh l least m) := HE.out (by simp [Rn.freshP, HN.out, h1])
      have d1 : decide ((k : Int) < (n : Int)) = false := by simp; omega
      clear HL HE
      go_wp2_with fail
      go_ret
      exact ⟨by rw [← HS.out]; rfl, q, rfl⟩
end RI
end Go.Proofs.Ytcahppmnfoopkaa

/- What a round of a loop over an iterator may do: new blocks, a row of the call's own, one box. -/
namespace Go.Proofs.Ytcahppmnfoopkaa
open Go.RowKit Go.Shelf

/-- what lies below n₀ is as it was, but for the block o -/
def Beside (o n₀ : Nat) (W W' : World) : Prop := W.heap.size ≤ W'.heap.size ∧ ∀ k, k < n₀ → k ≠ o → W'.heap[k]? = W.heap[k]?
theorem Beside.trans {o n₀ : Nat} {A B C : World} (h : Beside o n₀ A B) (k : Beside o n₀ B C) : Beside o n₀ A C := ⟨Nat.le_trans h.1 k.1, fun i hi ho => (k.2 i hi ho).trans (h.2 i hi ho)⟩
theorem Beside.of {o n₀ : Nat} {A B : World} (h : Below n₀ A B) : Beside o n₀ A B := ⟨h.size, fun i hi _ => h.block i hi⟩
theorem Beside.book {o n₀ : Nat} {w : World} (hn : n₀ ≤ w.heap.size) (W : World) (l : Nat) (x x' : Obj) (hl : w.heap.size ≤ l) (h : W.heap[l]? = some x) (h1 : x.isCells = false) (h2 : x.isWalk = false) : Beside o n₀ W (W.putObj l x') := .of (belowK_b hn W l x x' hl h h1 h2)

/-- from W to W': new blocks, rows from n₀ on that are no T, and the box A -/
structure Went (A n₀ : Nat) (T : TypeId) (W W' : World) : Prop where
  ko : KeepsOthers W W'
  bs : Beside A n₀ W W'
  bl : Below A W W'
  bx : ∀ (k : Nat) (cs : Array Value) (fr : Nat × Nat), W.heap[k]? = some (.cells cs T fr) → W'.heap[k]? = some (.cells cs T fr)

theorem Went.refl (A n₀ : Nat) (T : TypeId) (W : World) : Went A n₀ T W W := ⟨.refl _, .of (Below.refl _ _), Below.refl _ _, fun _ _ _ h => h⟩
theorem Went.trans {A n₀ : Nat} {T : TypeId} {W X Y : World} (h : Went A n₀ T W X) (k : Went A n₀ T X Y) : Went A n₀ T W Y :=
  ⟨h.ko.trans k.ko, h.bs.trans k.bs, h.bl.trans k.bl, fun i cs fr hi => k.bx i cs fr (h.bx i cs fr hi)⟩
theorem Went.drew {A n₀ : Nat} {T : TypeId} {W X : World} (h : Went A n₀ T W X) : Went A n₀ T W X.drew :=
  h.trans ⟨KeepsOthers.drew _, .of (Below.refl _ _).drew, (Below.refl _ _).drew, fun _ _ _ h => h⟩
theorem Went.alloc {A n₀ : Nat} {T : TypeId} {W X : World} (h : Went A n₀ T W X) (hn : n₀ ≤ X.heap.size) (hA : A ≤ X.heap.size) (o : Obj) : Went A n₀ T W (X.alloc o) :=
  h.trans ⟨KeepsOthers.alloc _ _, .of ((Below.refl _ _).alloc hn _), (Below.refl _ _).alloc hA _, fun k _ _ hk => (Below.heap_alloc X o k (Array.getElem?_eq_some_iff.1 hk).1).trans hk⟩
/-- an append to a row of the call's own -/
theorem Went.append {A n₀ k : Nat} {T e : TypeId} {W X Y : World} {v : Value} {xs : List Value} (h : Went A n₀ T W X) (hrow : X.ownsRow n₀ e 1 v k xs) (hT : T ≠ e) (hg : X.grownBy Y v.ownBlock) (hn : n₀ ≤ X.heap.size) (hA : A ≤ n₀) : Went A n₀ T W Y := by
  have hown : ∀ (j : Nat), v.ownBlock = some j → n₀ ≤ j ∧ ∃ cur, X.heap[j]? = some (.cells cur e (0, 0)) := fun j hj => by
    rcases hrow.2 with ⟨rfl, _⟩ | ⟨g, cap, cur, rfl, h1, h2, _⟩
    · cases hj
    · simp [Value.ownBlock] at hj; subst hj; exact ⟨h1, cur, h2⟩
  refine h.trans ⟨KeepsOthers.of_grownBy hg (fun j o ej hj => ?_), .of ((Below.refl _ _).grown hg hn (fun j hj => (hown j hj).1)), (Below.refl _ _).grown hg (by omega) (fun j hj => Nat.le_trans hA (hown j hj).1), fun j cs fr hj => ?_⟩
  · obtain ⟨_, cur, hc⟩ := hown j ej
    rw [hc] at hj; cases hj; rfl
  · refine (hg.block j (Array.getElem?_eq_some_iff.1 hj).1 (fun ej => ?_)).trans hj
    obtain ⟨_, cur, hc⟩ := hown j ej.symm
    rw [hc] at hj; cases hj; exact hT rfl
/-- a store into the box -/
theorem Went.store {A n₀ : Nat} {T t : TypeId} {W X : World} {u : Value} (h : Went A n₀ T W X) (hb : Boxed X A t u) (hT : T ≠ t) (v : Value) : Went A n₀ T W (X.setCell ⟨A, 0, none⟩ v) := by
  have hk : ∀ k, k ≠ A → (X.setCell ⟨A, 0, none⟩ v).heap[k]? = X.heap[k]? := fun k hk => Below.heap_setCell X ⟨A, 0, none⟩ v k hk
  refine h.trans ⟨KeepsOthers.setCell _ _ _, ⟨by simp, fun k _ hne => hk k hne⟩, (Below.refl A X).setCell (p := ⟨A, 0, none⟩) (Nat.le_refl _) _, fun k cs fr hc => ?_⟩
  by_cases e : k = A
  · subst e
    rw [show X.heap[k]? = _ from hb] at hc; cases hc; exact (hT rfl).elim
  · rw [hk k e]; exact hc
/-- a call that makes new blocks alone -/
theorem Went.call {A n₀ : Nat} {T : TypeId} {W X Y : World} (h : Went A n₀ T W X) (b : Below X.heap.size X Y) (hn : n₀ ≤ X.heap.size) (hA : A ≤ n₀) : Went A n₀ T W Y :=
  h.trans ⟨⟨b.size, fun k o hk _ => (b.block k (Array.getElem?_eq_some_iff.1 hk).1).trans hk⟩, .of (b.mono hn), b.mono (by omega), fun k _ _ hk => (b.block k (Array.getElem?_eq_some_iff.1 hk).1).trans hk⟩

theorem lt_of_at {w : World} {k : Nat} {o : Obj} (h : w.heap[k]? = some o) : k < w.heap.size := (Array.getElem?_eq_some_iff.1 h).1
theorem cell_two0 {w : World} {k : Nat} {a b : Value} {T : TypeId} (h : w.heap[k]? = some (.cells #[a, b] T (0, 0))) : w.cell? ⟨k, 0, none⟩ = some a := by simp [World.cell?, h]
theorem cell_two1 {w : World} {k : Nat} {a b : Value} {T : TypeId} (h : w.heap[k]? = some (.cells #[a, b] T (0, 0))) : w.cell? ⟨k, 1, none⟩ = some b := by simp [World.cell?, h]

end Go.Proofs.Ytcahppmnfoopkaa

/- The iterator over the stretches of a list (ints). -/
namespace Go.Proofs.Ytcahppmnfoopkaa
open Go.RowKit Go.Shelf
namespace RI

attribute [local go_sem] Oper.semAt_some

/-- a stretch as it is handed on -/
def enc (b off cap : Nat) (x : Nat × Nat × Bool) : Array Value := #[.agg #[.slice (some ⟨b, off + x.1, none⟩) x.2.1 (cap - x.1), .bool x.2.2]]

/-- what the iterator reads -/
structure Held (W : World) (a : Option Addr) (Bl Bm Bt b off cap N least m : Nat) (L : List Int) : Prop where
  hl : W.cell? ⟨Bl, 0, none⟩ = some (.slice a N cap)
  hm : W.cell? ⟨Bm, 0, none⟩ = some (.int .i64 (m : Int))
  ht : W.cell? ⟨Bt, 0, none⟩ = some (.int .i64 (least : Int))
  lies : Lies W b off L

theorem Held.kept {W W' : World} {a : Option Addr} {Bl Bm Bt b off cap N least m o n₀ : Nat} {L : List Int} (h : Held W a Bl Bm Bt b off cap N least m L) (hb : Beside o n₀ W W') (h1 : Bl < n₀) (h2 : Bm < n₀) (h3 : Bt < n₀) (h4 : b < n₀) (o1 : Bl ≠ o) (o2 : Bm ≠ o) (o3 : Bt ≠ o) (o4 : b ≠ o) : Held W' a Bl Bm Bt b off cap N least m L :=
  ⟨(World.cell?_of_block (w := W) (a := ⟨Bl, 0, none⟩) (hb.2 _ h1 o1)).trans h.hl, (World.cell?_of_block (w := W) (a := ⟨Bm, 0, none⟩) (hb.2 _ h2 o2)).trans h.hm, (World.cell?_of_block (w := W) (a := ⟨Bt, 0, none⟩) (hb.2 _ h3 o3)).trans h.ht,
   Nat.lt_of_lt_of_le h.lies.1 hb.1, fun i hi => (World.cell?_of_block (w := W) (a := ⟨b, off + i, none⟩) (hb.2 _ h4 o4)).trans (h.lies.2 i hi)⟩
theorem Held.drewN {W : World} {a : Option Addr} {Bl Bm Bt b off cap N least m : Nat} {L : List Int} (h : Held W a Bl Bm Bt b off cap N least m L) (q : Nat) : Held (W.drewN q) a Bl Bm Bt b off cap N least m L := ⟨h.hl, h.hm, h.ht, h.lies⟩

theorem grown_drewN (w : World) (q : Nat) : w.grownBy (w.drewN q) none := ⟨rfl, rfl, rfl, Nat.le_refl _, fun _ _ _ => rfl⟩

set_option maxRecDepth 100000 in
set_option maxHeartbeats 4000000 in
theorem stretches1_in (n : Nat) (hn : 1 ≤ n) (a : Option Addr) (l Bl Bm Bt b off cap N least m o n₀ : Nat) (L : List Int) (h1 : Bl < n₀) (h2 : Bm < n₀) (h3 : Bt < n₀) (h4 : b < n₀) (o1 : Bl ≠ o) (o2 : Bm ≠ o) (o3 : Bt ≠ o) (o4 : b ≠ o)
    (hN : L.length = N) (hNb : N ≤ 100000) (hlb : least ≤ 1000) (hmb : m ≤ 1000) (hm0 : 0 < m) (hcap : N ≤ cap) (ha : N = 0 ∨ a = some ⟨b, off, none⟩) (J Jx : List (Nat × Nat × Bool) → World → Prop)
    (W : World) (hJ : AbidesFrom W.heap.size J)
    (hY : ∀ pre x W, x.1 + x.2.1 ≤ N ∧ 1 ≤ x.2.1 ∧ x.2.1 ≤ m → J pre W → pre.length < (Rn.from_ least m L 0).length → YieldAt Fence.wide (n - 1) Try.prog l (enc b off cap x) W fun e W' =>
      (e = .returned (.bool true) ∧ J (pre ++ [x]) W' ∧ Beside o n₀ W W') ∨ (e = .returned (.bool false) ∧ Jx (pre ++ [x]) W'))
    (hH : Held W a Bl Bm Bt b off cap N least m L) (h0 : J [] W) :
    CallsIn Fence.wide n Try.prog 72 #[.func (.yield l) #[] #[], .pointer (some ⟨Bl, 0, none⟩), .pointer (some ⟨Bm, 0, none⟩), .pointer (some ⟨Bt, 0, none⟩)] W fun e W' => (∃ v, e = .returned v) ∧
      ((∃ ys, ys = Rn.from_ least m L 0 ∧ J ys W') ∨ (∃ pre, pre <+: Rn.from_ least m L 0 ∧ Jx pre W')) := by
  have hro : Fence.wide.round = none := rfl
  have HN : Hid (L.length = N) := hN
  clear hN
  have HY : Hid (∀ (pre : List (Nat × Nat × Bool)) (x : Nat × Nat × Bool) (W : World), x.1 + x.2.1 ≤ N ∧ 1 ≤ x.2.1 ∧ x.2.1 ≤ m → J pre W → pre.length < (Rn.from_ least m L 0).length → YieldAt Fence.wide (n - 1) Try.prog l (enc b off cap x) W fun e W' =>
      (e = .returned (.bool true) ∧ J (pre ++ [x]) W' ∧ Beside o n₀ W W') ∨ (e = .returned (.bool false) ∧ Jx (pre ++ [x]) W')) := hY
  have HJ : Hid (AbidesFrom W.heap.size J) := hJ
  clear hY hJ
  refine callsIn_of_wp Try.func72 rfl trivial ?_ hro
  simp only [Try.ntmps72, List.size_toArray, List.length_cons, List.length_nil, Nat.reduceAdd, Nat.reduceSub, Array.replicate_succ, Array.replicate_zero, List.push_toArray, List.append_toArray, List.nil_append, List.cons_append]
  gi_wp2
  gi_loopw [5] (fun i wr => ∃ (k : Nat) (pre : List (Nat × Nat × Bool)), k ≤ N ∧ i = .int .i64 (k : Int) ∧ Hid (Rn.from_ least m L 0 = pre ++ Rn.from_ least m L k) ∧ J pre wr ∧ Held wr a Bl Bm Bt b off cap N least m L)
    (fun i _ => N - (intOf i).toNat)
  case atStart => exact ⟨0, [], Nat.zero_le _, rfl, rfl, h0, hH⟩
  case round =>
    obtain ⟨k, pre, hk, rfl, HX, hJk, hHk⟩ := hrel
    obtain ⟨c1, c2, c3, hL⟩ := id hHk
    by_cases hlt : k < N
    · obtain rfl : a = some ⟨b, off, none⟩ := by
        rcases ha with h | h
        · omega
        · exact h
      have hkl : k < L.length := by rw [HN.out]; exact hlt
      have hkc : k < cap := by omega
      have hdl : 0 < (L.drop k).length := by rw [List.length_drop]; omega
      have hdn : (L.drop k).length = N - k := by rw [List.length_drop, HN.out]
      have HS : Hid (Calls Try.prog 73 #[.slice (some ⟨b, off + k, none⟩) (N - k) (cap - k), .int .i64 (m : Int)] wr fun e w' => e = .returned (.int .i64 ((Rn.same (L.drop k) m : Nat) : Int)) ∧ ∃ q, w' = wr.drewN q) :=
        sameAhead_any b (off + k) (cap - k) (N - k) m (L.drop k) wr hdn (by omega) hmb (hL.drop k)
      have HU : Hid (∀ q, Calls Try.prog 74 #[.slice (some ⟨b, off + k, none⟩) (N - k) (cap - k), .int .i64 (least : Int), .int .i64 (m : Int)] (wr.drewN q) fun e w' => e = .returned (.int .i64 ((Rn.fresh (L.drop k) least m : Nat) : Int)) ∧ ∃ q', w' = (wr.drewN q).drewN q') :=
        fun q => upToSame_any b (off + k) (cap - k) (N - k) least m (L.drop k) _ hdn (by omega) hlb hmb ((hL.drop k).drewN q) (by omega)
      have hsz := Rn.size_ends (l := L.drop k) (least := least) (m := m) hdl hm0
      have HF := Rn.from_step (least := least) (m := m) (l := L) hm0 hkl
      have hszd : Rn.size least m (L.drop k) = if least ≤ Rn.same (L.drop k) m then Rn.same (L.drop k) m else Rn.fresh (L.drop k) least m := rfl
      have hagd : Rn.again least m (L.drop k) = decide (least ≤ Rn.same (L.drop k) m) := rfl
      rw [hdn] at hsz
      have hlen : pre.length < (Rn.from_ least m L 0).length := by rw [HX.out, HF]; simp
      generalize hzs : Rn.size least m (L.drop k) = z at *
      generalize hza : Rn.again least m (L.drop k) = ag at *
      generalize Rn.same (L.drop k) m = sm at *
      generalize Rn.fresh (L.drop k) least m = fr at *
      have HX2 : Hid (Rn.from_ least m L 0 = (pre ++ [(k, z, ag)]) ++ Rn.from_ least m L (k + z)) := by
        show _ = _
        rw [HX.out, HF]; simp
      clear HF HX hdl hkl hdn hL hzs hza
      obtain ⟨hz1, hz2, hz3⟩ := hsz
      have hJd : ∀ q, J pre (wr.drewN q) := fun q => HJ.out pre wr _ none hJk (grown_drewN wr q) (fun r e => by cases e)
      have HJd : Hid (∀ q, J pre (wr.drewN q)) := hJd
      clear hJd hJk
      by_cases hag : least ≤ sm
      · rw [if_pos hag] at hszd
        subst hszd
        have hd : decide (least ≤ z) = true := by simp; exact hag
        rw [hd] at hagd
        subst hagd
        have d3 : decide ((z : Int) ≥ (least : Int)) = true := by simp; exact hag
        clear HU
        gi_wp2
        refine ⟨trivial, ?_⟩
        gi_wp2
        refine (callsIn_wide.2 HS.out).mono ?_
        rintro e W2 ⟨rfl, q, rfl⟩
        clear HS
        obtain ⟨fn, tmps, assign, body, hy, hR⟩ := HY.out pre (k, z, true) _ ⟨by show k + z ≤ N; omega, hz1, hz3⟩ (HJd.out q) hlen
        have hHq := hHk.drewN q
        dsimp only [enc] at hy
        gi_wp2
        refine hR.mono ?_
        rintro e W3 (⟨rfl, hJ3, hk3⟩ | ⟨rfl, hJx3⟩)
        · gi_wp2
          go_roundw
          case rel => exact ⟨k + z, _, by omega, by go_num, HX2, hJ3, hHq.kept hk3 h1 h2 h3 h4 o1 o2 o3 o4⟩
          case measure => simp [intOf]; omega
        · gi_wp2
          refine bodyPost_ret (results_none rfl _ _ _) rfl ?_
          exact ⟨⟨_, rfl⟩, .inr ⟨_, ⟨_, HX2.out.symm⟩, hJx3⟩⟩
      · rw [if_neg hag] at hszd
        subst hszd
        have hd : decide (least ≤ sm) = false := by simp; omega
        rw [hd] at hagd
        subst hagd
        have d3 : decide ((sm : Int) ≥ (least : Int)) = false := by simp; omega
        gi_wp2
        refine ⟨trivial, ?_⟩
        gi_wp2
        refine (callsIn_wide.2 HS.out).mono ?_
        rintro e W2 ⟨rfl, q, rfl⟩
        clear HS
        gi_wp2
        refine ⟨trivial, ?_⟩
        gi_wp2
        refine (callsIn_wide.2 (HU.out q)).mono ?_
        rintro e W2 ⟨rfl, q2, rfl⟩
        clear HU
        obtain ⟨fn, tmps, assign, body, hy, hR⟩ := HY.out pre (k, z, false) _ ⟨by show k + z ≤ N; omega, hz1, hz3⟩ (HJd.out (q + q2)) hlen
        have hHq := hHk.drewN (q + q2)
        dsimp only [enc] at hy
        gi_wp2
        refine hR.mono ?_
        rintro e W3 (⟨rfl, hJ3, hk3⟩ | ⟨rfl, hJx3⟩)
        · gi_wp2
          go_roundw
          case rel => exact ⟨k + z, _, by omega, by go_num, HX2, hJ3, hHq.kept hk3 h1 h2 h3 h4 o1 o2 o3 o4⟩
          case measure => simp [intOf]; omega
        · gi_wp2
          refine bodyPost_ret (results_none rfl _ _ _) rfl ?_
          exact ⟨⟨_, rfl⟩, .inr ⟨_, ⟨_, HX2.out.symm⟩, hJx3⟩⟩
    · obtain rfl : k = N := by omega
      gi_wp2
      go_end0
      exact ⟨⟨_, rfl⟩, .inl ⟨_, by rw [HX.out, Rn.from_end (by rw [HN.out]; exact Nat.le_refl _), List.append_nil], hJk⟩⟩
/-- a stretch of a list of N, m at most -/
abbrev St (N m : Nat) := { x : Nat × Nat × Bool // x.1 + x.2.1 ≤ N ∧ 1 ≤ x.2.1 ∧ x.2.1 ≤ m }

theorem stretches_stops (n : Nat) (hn : 1 ≤ n) (a : Option Addr) (Bl Bm Bt b off cap N least m o n₀ : Nat) (L : List Int) (w : World) (h1 : Bl < n₀) (h2 : Bm < n₀) (h3 : Bt < n₀) (h4 : b < n₀) (o1 : Bl ≠ o) (o2 : Bm ≠ o) (o3 : Bt ≠ o) (o4 : b ≠ o) (hn₀ : n₀ ≤ w.heap.size)
    (hN : L.length = N) (hNb : N ≤ 100000) (hlb : least ≤ 1000) (hmb : m ≤ 1000) (hm0 : 0 < m) (hcap : N ≤ cap) (ha : N = 0 ∨ a = some ⟨b, off, none⟩) (hH : Held w a Bl Bm Bt b off cap N least m L) :
    SeqStopsK Fence.wide n Try.prog 72 #[.pointer (some ⟨Bl, 0, none⟩), .pointer (some ⟨Bm, 0, none⟩), .pointer (some ⟨Bt, 0, none⟩)] (fun x : St N m => enc b off cap x.1) (Beside o n₀)
      (fun ys => ys.map Subtype.val = Rn.from_ least m L 0) (fun pre => pre.map Subtype.val <+: Rn.from_ least m L 0) (Rn.from_ least m L 0).length w := by
  intro l J Jx W hW hJ _ hY h0
  refine (stretches1_in n hn a l Bl Bm Bt b off cap N least m o n₀ L h1 h2 h3 h4 o1 o2 o3 o4 hN hNb hlb hmb hm0 hcap ha
    (fun pre W => ∃ p : List (St N m), p.map Subtype.val = pre ∧ J p W) (fun pre W => ∃ p : List (St N m), p.map Subtype.val = pre ∧ Jx p W) W
    (fun s A B row hs hg hr => by obtain ⟨p, hp, hj⟩ := hs; exact ⟨p, hp, hJ p A B row hj hg hr⟩) ?_ ?_ ⟨[], rfl, h0⟩).mono ?_
  · rintro pre x W1 hx ⟨p, rfl, hj⟩ hlen
    obtain ⟨fn, tmps, assign, body, hy, hR⟩ := hY p ⟨x, hx⟩ W1 hj (by simpa using hlen)
    refine ⟨fn, tmps, assign, body, hy, hR.mono ?_⟩
    rintro e W' (⟨rfl, h2, h3⟩ | ⟨rfl, h2⟩)
    · exact .inl ⟨rfl, ⟨p ++ [⟨x, hx⟩], by simp, h2⟩, h3⟩
    · exact .inr ⟨rfl, ⟨p ++ [⟨x, hx⟩], by simp, h2⟩⟩
  · exact hH.kept (Beside.of (o := o) (hW.mono hn₀)) h1 h2 h3 h4 o1 o2 o3 o4
  · rintro e W' ⟨hv, h⟩
    refine ⟨hv, ?_⟩
    rcases h with ⟨ys, hy, p, hp, hj⟩ | ⟨pre, hpre, p, hp, hj⟩
    · exact .inl ⟨p, hp.trans hy, hj⟩
    · exact .inr ⟨p, by show p.map Subtype.val <+: _; rw [hp]; exact hpre, hj⟩

set_option maxHeartbeats 400000 in
theorem stretchesOf_any (a : Option Addr) (N cap : Nat) (least m : Int) (w : World) :
    Calls Try.prog 62 #[.slice a N cap, .int .i64 least, .int .i64 m] w fun e w' =>
      e = .returned (.func (.func 72) #[] #[.pointer (some ⟨w.heap.size, 0, none⟩), .pointer (some ⟨w.heap.size + 2, 0, none⟩), .pointer (some ⟨w.heap.size + 1, 0, none⟩)]) ∧
      w' = ((w.alloc (.cells #[.slice a N cap] 22)).alloc (.cells #[.int .i64 least] 3)).alloc (.cells #[.int .i64 m] 3) := by
  go_enter Try.func62, Try.ntmps62
  go_wp2_with fail
  go_ret
  exact ⟨rfl, rfl⟩
end RI
end Go.Proofs.Ytcahppmnfoopkaa

/- A region that draws its order, in the body of a loop over an iterator: what was walked outside of rounds serves there. -/
namespace Go.Proofs.Ytcahppmnfoopkaa
open Go.RowKit

theorem round_ops {P : Program} {ops : Array Oper} {Q : Exit → Act → World → Prop} {r n : Nat} (hQ : ∀ a w, ¬ Q .outgrown a w) (hnd : ∀ (i : Nat) (o : Oper), ops[i]? = some o → ∀ c, o.op ≠ .defer c) :
    ∀ (l : List Nat) (a : Act) (w : World), wpOps P ops Q l a w → wpOpsIn (Fence.wide.inRound r) n P ops Q l a w
  | [], _, _, h => h
  | i :: rest, a, w, h => by
    have ih := round_ops (P := P) (r := r) (n := n) hQ hnd rest
    simp only [wpOps, wpOpsIn] at h ⊢
    cases ho : ops[i]? with
    | none => simp only [ho] at h ⊢; exact ih a w h
    | some o =>
      simp only [ho] at h ⊢
      by_cases hw : Region.wanted o (yielded ops a.tmps) = true
      · simp only [hw, if_true] at h ⊢
        rcases h with h | ⟨_, a₀, w₀, hq⟩
        case inr => exact (hQ _ _ hq).elim
        refine ⟨fun _ _ => trivial, ?_⟩
        rw [Oper.semAt_eq _ _ _ (hnd i o ho)]
        unfold Oper.wp at h
        generalize (execOp a.eval o).run P w = R at h ⊢
        match R, h with
        | .ok (.value v) w', h => exact ih _ _ h
        | .ok .skip w', h => exact ih _ _ h
        | .ok (.defer d) w', h => exact ih _ _ h
        | .ok (.enter f args) w', h =>
          refine ⟨fun hd => (by simp [Fence.wide] at hd), ?_⟩
          refine (CallsIn.inRound r (callsIn_wide.2 h)).mono ?_
          intro e w'' hr
          cases e with
          | returned v => exact ih _ _ hr
          | panicked c => exact hr
          | outgrown => exact hr
        | .ok (.row row args) w', h =>
          refine ⟨fun hd => (by simp [Fence.wide] at hd), fun c cs _ => ?_⟩
          obtain ⟨v, w'', hr, hs⟩ := h c cs
          exact ⟨v, w'', ih _ _ hr, stepsIn_wide.2 hs⟩
        | .ok (.round _ _ _ _ _) _, h => exact h.elim
        | .halt x _, h => cases x <;> first | exact h | exact h.elim
      · simp only [hw, if_false, Bool.false_eq_true] at h ⊢
        exact ⟨fun _ _ => trivial, ih _ _ h⟩

def noDefer (ops : Array Oper) : Bool := ops.all fun o => match o.op with | .defer _ => false | _ => true
theorem noDefer_spec {ops : Array Oper} (h : noDefer ops = true) (i : Nat) (o : Oper) (ho : ops[i]? = some o) (c : Call) : o.op ≠ .defer c := by
  unfold noDefer at h
  rw [Array.all_eq_true] at h
  obtain ⟨hi, he⟩ := Array.getElem?_eq_some_iff.1 ho
  have := h i hi
  rw [he] at this
  intro e
  rw [e] at this
  cases this

theorem round_region {P : Program} {id : Nat} {ops : Array Oper} {Q : Exit → Act → World → Prop} {a : Act} {w : World} {r n : Nat} (hm : P.follows .mixedOrders = true) (hQ : ∀ a w, ¬ Q .outgrown a w) (hnd : noDefer ops = true)
    (h : wpAny P .any ops Q ops.size (Array.replicate ops.size false) a w.drew) : (Code.region id ops true).wpIn (Fence.wide.inRound r) n P Q a w :=
  wpIn_region_draw fun t => round_ops hQ (noDefer_spec hnd) _ _ _ (by
    simp only [Region.schedule, hm, Bool.true_or, if_true]
    exact wpAny_sound ops.size t _ a _ h)

theorem round_region_held {P : Program} {id : Nat} {ops : Array Oper} {Q : Exit → Act → World → Prop} {a : Act} {w : World} {r n : Nat} {S : World → Prop} (hm : P.follows .mixedOrders = true) (hQ : ∀ a w, ¬ Q .outgrown a w) (hnd : noDefer ops = true)
    (hS : S w.drew) (h : S w.drew → wpAnyH P .any ops Q S ops.size (Array.replicate ops.size false) a w.drew) : (Code.region id ops true).wpIn (Fence.wide.inRound r) n P Q a w :=
  round_region hm hQ hnd (wpAny_of_held _ _ _ _ (h hS))
end Go.Proofs.Ytcahppmnfoopkaa

/- RunPut of the program. -/
namespace Go.Proofs.Ytcahppmnfoopkaa
open Go.RowKit Go.Shelf

attribute [local go_sem] Oper.semAt_some

/-- the list as it came: in a block below the call's own, or empty -/
def CameIn (w : World) (a : Option Addr) (b off : Nat) (l : List Int) : Prop := (b = w.heap.size ∧ l = []) ∨ (b < w.heap.size ∧ a = some ⟨b, off, none⟩ ∧ ∀ i (h : i < l.length), w.cell? ⟨b, off + i, none⟩ = some (.int .i64 l[i]))
theorem CameIn.of {w : World} {a : Option Addr} {l : List Int} (h : Ints w a l) : ∃ b off, CameIn w a b off l := by
  rcases h with rfl | ⟨b, off, rfl, hb, hc⟩
  · exact ⟨w.heap.size, 0, .inl ⟨rfl, rfl⟩⟩
  · exact ⟨b, off, .inr ⟨hb, rfl, hc⟩⟩
theorem CameIn.lies {w W : World} {a : Option Addr} {b off : Nat} {l : List Int} (h : CameIn w a b off l) (hb : Below w.heap.size w W) (hz : w.heap.size < W.heap.size) : RI.Lies W b off l := by
  rcases h with ⟨rfl, rfl⟩ | ⟨h1, _, h3⟩
  · exact ⟨hz, fun i hi => by simp at hi⟩
  · exact ⟨by omega, fun i hi => (hb.cell (p := ⟨b, off + i, none⟩) h1).trans (h3 i hi)⟩
theorem RI.Lies.take {w : World} {b off : Nat} {l : List Int} (h : RI.Lies w b off l) (t : Nat) : b < w.heap.size ∧ ∀ i (hi : i < (l.take t).length), w.cell? ⟨b, off + i, none⟩ = some (.int .i64 (l.take t)[i]) :=
  ⟨h.1, fun i hi => by
    have h1 : i < l.length := by rw [List.length_take] at hi; omega
    rw [List.getElem_take]; exact h.2 i h1⟩
theorem CameIn.le {w : World} {a : Option Addr} {b off : Nat} {l : List Int} (h : CameIn w a b off l) : b ≤ w.heap.size := by
  rcases h with ⟨rfl, _⟩ | ⟨h1, _⟩ <;> omega
theorem CameIn.ptr {w : World} {a : Option Addr} {b off : Nat} {l : List Int} (h : CameIn w a b off l) : l.length = 0 ∨ a = some ⟨b, off, none⟩ := by
  rcases h with ⟨_, rfl⟩ | ⟨_, h1, _⟩
  · exact .inl rfl
  · exact .inr h1

/-- between two rounds: the text so far in a row of the call's own -/
def RtI (w : World) (S : Nat) (l : List Int) (N : Nat) (pre : List (RI.St N 128)) (W : World) : Prop :=
  (∃ v, Boxed W (w.heap.size + 1) 48 v ∧ OwnT W (w.heap.size + 5) v (Rt.flat S l (pre.map Subtype.val)).length (Rt.flat S l (pre.map Subtype.val))) ∧
  Boxed W w.heap.size 3 (.int .i64 (S : Int)) ∧ Below w.heap.size w W ∧ w.heap.size + 5 ≤ W.heap.size

theorem rtI_own (w : World) (S : Nat) (l : List Int) (N B : Nat) (hB : w.heap.size + 5 ≤ B) : OwnFrom B (RtI w S l N) := by
  rintro pre X Y row ⟨⟨v, hv, hr⟩, hZ, hb, hs⟩ hg hrow
  have hne : ∀ k, k < w.heap.size + 5 → some k ≠ row := fun k hk e => by have := (hrow k e.symm).1; omega
  refine ⟨⟨v, hv.kept hg (hne _ (by omega)), World.ownsRow.kept (show World.ownsRow _ _ _ _ _ _ _ from hr) hg ?_⟩, hZ.kept hg (hne _ (by omega)), hb.grown hg hb.size (fun k e => by have := (hrow k e).1; omega), Nat.le_trans hs hg.size⟩
  by_cases h0 : v.ownBlock = none
  · exact .inl h0
  · refine .inr (fun e => ?_)
    rcases (show World.ownsRow _ _ _ _ _ _ _ from hr).2 with ⟨rfl, _⟩ | ⟨g, cap, cur, rfl, _, h2, _⟩
    · exact h0 rfl
    · obtain ⟨_, o, ho, hc⟩ := hrow g e.symm
      rw [h2] at ho; cases ho; cases hc

theorem rt_end {w : World} {S : Nat} {l : List Int} {N : Nat} {pre : List (RI.St N 128)} {x : RI.St N 128} {W W' : World} {T : TypeId} {v : Value} {m : Nat} {q : List UInt8} (hI : RtI w S l N pre W) (hw : Went (w.heap.size + 1) (w.heap.size + 5) T W W')
    (hb : Boxed W' (w.heap.size + 1) 48 v) (hr : OwnT W' (w.heap.size + 5) v m q) (hq : q = Rt.flat S l (pre.map Subtype.val) ++ Rt.piece S l x.1) (B : Nat) : KeepsFrom B W W' ∧ Beside (w.heap.size + 1) (w.heap.size + 5) W W' ∧ RtI w S l N (pre ++ [x]) W' := by
  obtain ⟨_, hZ, hbel, hs⟩ := hI
  refine ⟨hw.ko.from _, hw.bs, ⟨v, hb, ?_⟩, (hw.bs.2 w.heap.size (by omega) (by omega)).trans hZ, hbel.trans (hw.bl.mono (by omega)), Nat.le_trans hs hw.bs.1⟩
  rw [List.map_append, List.map_singleton, Rt.flat_snoc, ← hq, hr.len]
  exact hr

set_option linter.unusedSimpArgs false in
set_option maxRecDepth 100000 in
set_option maxHeartbeats 8000000 in
theorem impl_runPut_in (a : Option Addr) (N cap S : Nat) (l : List Int) (w : World) (hl : Ints w a l) (hn : l.length = N) (hN : N ≤ 1000) (hcap : N ≤ cap) (hS1 : 1 ≤ S) (hS : S ≤ 4) (hf : Rt.fit S l = true) :
    CallsIn Fence.wide 3 Try.prog 43 #[.slice a N cap, .int .i64 (S : Int)] w fun e W' => e = .returned (.string ⟨(Rt.all S l).toArray⟩) ∧ Below w.heap.size w W' := by
  have hro : Fence.wide.round = none := rfl
  obtain ⟨i0, hi0, hz0, hz1, hz2⟩ := info_parts info_u8t
  have HN : Hid (l.length = N) := hn
  have HF : Hid (Rt.fit S l = true) := hf
  have d1 : decide ((S : Int) < 1) = false := by simp; omega
  have d2 : decide ((S : Int) > 4) = false := by simp; omega
  have d3 : decide ((N : Int) > 1000) = false := by simp; omega
  obtain ⟨b, off, hcm⟩ := CameIn.of hl
  have HCM : Hid (CameIn w a b off l) := hcm
  obtain ⟨B, hB⟩ : ∃ B, B = 8 * S := ⟨_, rfl⟩
  have e8 : (8 : Int) * (S : Int) = (B : Int) := by omega
  have HNF : Hid (∀ X : World, Below w.heap.size w X → Calls Try.prog 61 #[.slice a N cap, .int .i64 (B : Int)] X fun e w' => e = .returned (.bool true) ∧ w' = X) := fun X hX => by
    have := numbersFit_any a N cap B S l X (hl.kept hX) HN.out (by omega) hB hS
    rw [HF.out] at this; exact this
  have hBb : B ≤ 32 := by omega
  clear hl hn hf hcm hB
  refine callsIn_of_wp_marks Try.func43 rfl trivial ?_ hro
  simp only [Try.ntmps43, List.size_toArray, List.length_cons, List.length_nil, Nat.reduceAdd, Nat.reduceSub, Array.replicate_succ, Array.replicate_zero, List.push_toArray, List.append_toArray, List.nil_append, List.cons_append]
  gi_wp2
  refine ⟨trivial, ?_⟩
  gi_wp2
  refine (callsIn_wide.2 (HNF.out _ ((Below.refl _ _).alloc (Nat.le_refl _) _))).mono ?_
  rintro e w2 ⟨rfl, hw2⟩
  subst hw2
  clear HNF
  gi_wp2
  refine ⟨trivial, ?_⟩
  gi_wp2
  refine (callsIn_wide.2 (RI.stretchesOf_any a N cap 2 128 _)).mono ?_
  rintro e w3 ⟨rfl, hw3⟩
  gi_wp2
  clear hw3
  obtain ⟨W0, hW0⟩ : ∃ W0, ((((w.alloc (.cells #[.int .i64 (S : Int)] 3)).alloc (.cells #[.slice none 0 0] 48)).alloc (.cells #[.slice a N cap] 22)).alloc (.cells #[.int .i64 2] 3)).alloc (.cells #[.int .i64 128] 3) = W0 := ⟨_, rfl⟩
  rw [hW0]
  have HZ : Hid (W0.heap.size = w.heap.size + 5) := by show _ = _; rw [← hW0]; simp
  have HB0 : Hid (Below w.heap.size w W0) := by
    show Below _ _ _
    rw [← hW0]; exact (((((Below.refl _ w).alloc (Nat.le_refl _) _).alloc (by simp) _).alloc (by simp; omega) _).alloc (by simp; omega) _).alloc (by simp; omega) _
  have HBz : Hid (Boxed W0 w.heap.size 3 (.int .i64 (S : Int))) := by
    show Boxed _ _ _ _
    rw [← hW0]; exact ((((Boxed.new w 3 _).alloc _).alloc _).alloc _).alloc _
  have HBx : Hid (Boxed W0 (w.heap.size + 1) 48 (.slice none 0 0)) := by
    show Boxed _ _ _ _
    rw [← hW0, show w.heap.size + 1 = (w.alloc (.cells #[.int .i64 (S : Int)] 3)).heap.size by simp]
    exact (((Boxed.new _ 48 _).alloc _).alloc _).alloc _
  have HH : Hid (RI.Held W0 a (w.heap.size + 1 + 1) (w.heap.size + 1 + 1 + 2) (w.heap.size + 1 + 1 + 1) b off cap N 2 128 l) := by
    refine ⟨?_, ?_, ?_, HCM.out.lies HB0.out (by rw [HZ.out]; omega)⟩
    · rw [← hW0, show w.heap.size + 1 + 1 = ((w.alloc (.cells #[.int .i64 (S : Int)] 3)).alloc (.cells #[.slice none 0 0] 48)).heap.size by simp]
      exact (((Boxed.new _ 22 _).alloc _).alloc _).cell
    · rw [← hW0, show w.heap.size + 1 + 1 + 2 = ((((w.alloc (.cells #[.int .i64 (S : Int)] 3)).alloc (.cells #[.slice none 0 0] 48)).alloc (.cells #[.slice a N cap] 22)).alloc (.cells #[.int .i64 2] 3)).heap.size by simp]
      exact (Boxed.new _ 3 _).cell
    · rw [← hW0, show w.heap.size + 1 + 1 + 1 = (((w.alloc (.cells #[.int .i64 (S : Int)] 3)).alloc (.cells #[.slice none 0 0] 48)).alloc (.cells #[.slice a N cap] 22)).heap.size by simp]
      exact ((Boxed.new _ 3 _).alloc _).cell
  clear hW0
  have hbz := HCM.out.le
  have HS := RI.stretches_stops 2 (by omega) a (w.heap.size + 1 + 1) (w.heap.size + 1 + 1 + 2) (w.heap.size + 1 + 1 + 1) b off cap N 2 128 (w.heap.size + 1) (w.heap.size + 5) l W0 (by omega) (by omega) (by omega) (by omega) (by omega) (by omega) (by omega) (by omega) (by rw [HZ.out]; exact Nat.le_refl _)
    HN.out (by omega) (by omega) (by omega) (by omega) hcap (by rw [← HN.out]; exact HCM.out.ptr) HH.out
  refine wpIn_rangeFunc_ownH hro (by omega) (gf := 72) (lb := _) rfl trivial (enters_of Try.func72 (by kernel_rfl) rfl)
    HS Beside.trans (Beside.book (by rw [HZ.out]; exact Nat.le_refl _)) (Below.refl _ _) (fun _ => rfl)
    (RtI w S l N) (fun _ _ _ => False) (rtI_own w S l N _ (by rw [HZ.out]; exact Nat.le_refl _)) (fun _ _ _ _ _ hs _ _ => hs)
    ⟨⟨_, HBx.out, ownT_nil _ _⟩, HBz.out, HB0.out, by rw [HZ.out]; exact Nat.le_refl _⟩
    (fun x a' W => ∃ Bx, w.heap.size + 5 ≤ Bx ∧ W.heap[Bx]? = some (.cells #[.slice (some ⟨b, off + x.1.1, none⟩) x.1.2.1 (cap - x.1.1), .bool x.1.2.2] 85 (0, 0)) ∧
      a' = { tmps := #[.slice a N cap, .int .i64 (S : Int), undef, .pointer (some ⟨w.heap.size, 0, none⟩), .string ⟨#[]⟩, .pointer (some ⟨w.heap.size + 1, 0, none⟩), .pointer (some ⟨Bx, 0, none⟩), undef, .int .i64 (S : Int), .bool false, .bool false, .int .i64 (S : Int), .bool false, .bool false, .bool false, .slice a N cap, .int .i64 (N : Int), .bool false, .bool false, .bool false, .slice a N cap, .int .i64 (S : Int), .int .i64 (B : Int), .bool true, .bool false, .bool false, .slice a N cap, .func (.func 72) #[] #[.pointer (some ⟨w.heap.size + 1 + 1, 0, none⟩), .pointer (some ⟨w.heap.size + 1 + 1 + 2, 0, none⟩), .pointer (some ⟨w.heap.size + 1 + 1 + 1, 0, none⟩)], .agg #[.slice (some ⟨b, off + x.1.1, none⟩) x.1.2.1 (cap - x.1.1), .bool x.1.2.2], undef, undef, undef, undef, undef, undef, undef, undef, undef, undef, undef, undef, undef, undef, undef, undef, undef, undef, undef, undef, undef, undef, undef, undef, undef, undef, undef, undef, undef, undef], defers := [] })
    ?ax ?assign ?body ?done ?stop
  case ax =>
    rintro x a' _ X Y row ⟨Bx, h1, h2, h3⟩ hg hrow
    refine ⟨Bx, h1, (hg.block Bx (lt_of_at h2) (fun e => ?_)).trans h2, h3⟩
    obtain ⟨_, o, ho, hc⟩ := hrow Bx e.symm
    rw [h2] at ho; cases ho; cases hc
  case assign =>
    rintro r pre x W K hi hK
    dsimp only [RI.enc]
    gi_wp2
    have hsz := hi.2.2.2
    exact hK _ _ ((KeepsOthers.alloc _ _).from _) (Beside.of ((Below.refl _ W).alloc hsz _)) ((rtI_own w S l N _ (Nat.le_refl _)).alloc _ hi) ⟨W.heap.size, hsz, heap_alloc_new _ _, rfl⟩
  case body =>
    rintro r pre ⟨⟨k, z, ag⟩, hk, hzl, hzm⟩ a' W _ ⟨rr, hrr⟩ hI ⟨Bx, hBx, hbx, rfl⟩ hlt
    have HI : Hid (RtI w S l N pre W) := hI
    obtain ⟨⟨v, hv, hrow⟩, hZb, hbel, hsz⟩ := hI
    dsimp only at hk hzl hzm hbx
    have hpl : pre.length ≤ 1000 := by
      have h1 := Rn.all_len (least := 2) (m := 128) (l := l) (l.length - 0) 0
      have h2 : (Rn.from_ 2 128 l 0).length ≤ l.length - 0 := h1
      rw [HN.out] at h2
      omega
    have hfl := Rt.flat_len S l hS (pre.map Subtype.val) (fun y hy => by
      obtain ⟨x, _, rfl⟩ := List.mem_map.1 hy
      exact x.2.2.2)
    rw [List.length_map] at hfl
    obtain ⟨q, hq⟩ : ∃ q, q = Rt.flat S l (pre.map Subtype.val) := ⟨_, rfl⟩
    obtain ⟨m, hm⟩ : ∃ m, m = q.length := ⟨_, rfl⟩
    rw [← hq, ← hm] at hrow
    have hmb : m ≤ 513000 := by rw [hm, hq]; omega
    have HR : Hid (OwnT W (w.heap.size + 5) v m q) := hrow
    have HV : Hid (Boxed W (w.heap.size + 1) 48 v) := hv
    have HX : Hid (W.heap[Bx]? = some (.cells #[.slice (some ⟨b, off + k, none⟩) z (cap - k), .bool ag] 85 (0, 0))) := hbx
    have HZb : Hid (Boxed W w.heap.size 3 (.int .i64 (S : Int))) := hZb
    have hBA : Bx ≠ w.heap.size + 1 := by omega
    have hck : 1 ≤ cap - k := by omega
    have hzck : z ≤ cap - k := by omega
    have c0 := cell_two0 hbx
    have c1 := cell_two1 hbx
    have hvc := hv.cell
    have hvf := hv.frozen
    clear hrow hv hbx hZb hfl hlt hpl hm HS HH HB0 HBx HBz hrr
    cases ag with
    | true =>
      obtain ⟨d, hd⟩ : ∃ d : Nat, d = 127 + z := ⟨_, rfl⟩
      have e1 : (127 : Int) + (z : Int) = (d : Int) := by omega
      have hdb : d < 256 := by omega
      obtain ⟨h, hh⟩ : ∃ h, h = UInt8.ofNat d := ⟨_, rfl⟩
      obtain ⟨tx, htx⟩ : ∃ tx, tx = Rt.txt S ((l.drop k).take 1) := ⟨_, rfl⟩
      have hts : tx.length ≤ 512 := by
        have h1 : (Rt.txt S ((l.drop k).take 1)).length = S * ((l.drop k).take 1).length := Rt.txt_len S _
        have h2 : ((l.drop k).take 1).length ≤ 128 := by rw [List.length_take]; omega
        have h3 : S * ((l.drop k).take 1).length ≤ 4 * 128 := Nat.mul_le_mul hS h2
        rw [htx]; omega
      have HQ : Hid (q ++ [h] ++ tx = Rt.flat S l (pre.map Subtype.val) ++ Rt.piece S l (k, z, true)) := by
        show _ = _
        rw [hq, List.append_assoc, htx, hh, hd]; rfl
      have HU : Hid ([Value.int .u8 (d : Int)] = u8V [h]) := by
        show _ = _
        rw [hh]; simp [u8V]; omega
      have HT : Hid (∀ X : World, Went (w.heap.size + 1) (w.heap.size + 5) 85 W X → Calls Try.prog 22 #[.slice (some ⟨b, off + k, none⟩) 1 (cap - k), .int .i64 (S : Int), .bool false] X fun e w' => e = .returned (.string ⟨tx.toArray⟩) ∧ Below X.heap.size X w') := fun X hX => by
        have hLX := HCM.out.lies (W := X) (hbel.trans (hX.bl.mono (by omega))) (by have := hX.bs.1; omega)
        have := numberText_any b (off + k) (cap - k) 1 S ((l.drop k).take 1) X (RI.Lies.take (hLX.drop k) 1) (by rw [List.length_take, List.length_drop, HN.out]; omega) (by omega) hS1 hS (Rt.fit_sub HF.out k 1)
        rw [← htx] at this; exact this
      clear hd hh htx hq
      gi_wp2_with (gi_at_builtin; refine wpListIn_append_own _ rfl _ _ 48 rfl (w.heap.size + 5) 5 i0 (.int .u8 0) 1 1 Try.underlying48 hi0 hz0 hz1 hz2 rfl (by decide) v m (u8V q) rfl (World.ownsRow.alloc (show World.ownsRow _ _ _ _ _ _ _ from HR.out) _) ⟨W.heap.size, 0, none⟩ 1 1 [.int .u8 (d : Int)] rfl rfl (cell_one_new _ _ _) (by simp [Value.oneCell']) (by unfold maxLen; omega) (by omega) (Nat.le_trans hsz (by simp)) ?_)
      intro v4 w4 hown4 hg4 _
      obtain ⟨g, cap4, rfl⟩ := ownsRow_succ hown4
      have hW4 : Went (w.heap.size + 1) (w.heap.size + 5) 85 W w4 := ((Went.refl _ _ _ W).alloc hsz (by omega) (.cells #[.int .u8 (d : Int)] 5)).append (World.ownsRow.alloc (show World.ownsRow _ _ _ _ _ _ _ from HR.out) _) (by decide) hg4 (Nat.le_trans hsz (by simp)) (by omega)
      have hvA : Boxed (W.alloc (.cells #[.int .u8 (d : Int)] 5)) (w.heap.size + 1) 48 v := HV.out.alloc _
      have hv4 : Boxed w4 (w.heap.size + 1) 48 v := hvA.kept hg4 (Boxed.not_row hvA (by decide) (World.ownsRow.alloc (show World.ownsRow _ _ _ _ _ _ _ from HR.out) _))
      have hv4c := hv4.cell
      have hv4f := hv4.frozen
      obtain ⟨w5, hw5⟩ : ∃ w5, w5 = w4.setCell ⟨w.heap.size + 1, 0, none⟩ (.slice (some ⟨g, 0, none⟩) (m + 1) cap4) := ⟨_, rfl⟩
      have HW5 : Hid (Went (w.heap.size + 1) (w.heap.size + 5) 85 W w5) := by show Went _ _ _ _ _; rw [hw5]; exact hW4.store hv4 (by decide) _
      have HV5 : Hid (Boxed w5 (w.heap.size + 1) 48 (.slice (some ⟨g, 0, none⟩) (m + 1) cap4)) := by show Boxed _ _ _ _; rw [hw5]; exact hv4.set _
      have HO5 : Hid (OwnT w5 (w.heap.size + 5) (.slice (some ⟨g, 0, none⟩) (m + 1) cap4) (m + 1) (q ++ [h])) := by
        show OwnT _ _ _ _ _
        unfold OwnT
        rw [← u8V_append, ← HU.out, hw5]
        exact World.ownsRow.kept hown4 (grownBy_setCell' w4 (w.heap.size + 1) _) (.inr (hv4.not_row (by decide) hown4).symm)
      have HZ5 : Hid (Boxed w5 w.heap.size 3 (.int .i64 (S : Int))) := (HW5.out.bs.2 w.heap.size (by omega) (by omega)).trans HZb.out
      have hx5 : w5.cell? ⟨Bx, 0, none⟩ = some (.slice (some ⟨b, off + k, none⟩) z (cap - k)) := cell_two0 (HW5.out.bx _ _ _ HX.out)
      rw [hw5] at hx5
      have cz5 := HZ5.out.cell
      clear hvA hW4 hown4 hg4 hv4 HR HV HX
      gi_wp2
      rw [← hw5]
      clear hx5 hw5 hv4c hv4f c0 c1 hvc hvf
      refine round_region_held (S := fun w' => w'.cell? ⟨w.heap.size, 0, none⟩ = some (.int .i64 (S : Int))) (by kernel_rfl) (fun _ _ h => h) (by kernel_rfl) cz5 (fun _ => ?_)
      refine wpAnyH_take (i := 1) (v := (.slice (some ⟨b, off + k, none⟩) 1 (cap - k))) rfl (by kernel_rfl) (by kernel_rfl) (by kernel_rfl) (fun _ _ _ h => h) (Or.inl ⟨by rfl, ?_⟩) cz5 ?_
      · intro w' s1
        go_simp
      try simp only [Act.put, List.setIfInBounds_toArray, List.set_cons_zero, List.set_cons_succ]
      refine wpAnyH_take (i := 2) (v := .int .i64 (S : Int)) rfl (by kernel_rfl) (by kernel_rfl) (by kernel_rfl) (fun _ _ _ h => h) (Or.inl ⟨by rfl, ?_⟩) cz5 ?_
      · intro w' s1
        go_simp
      try simp only [Act.put, List.setIfInBounds_toArray, List.set_cons_zero, List.set_cons_succ]
      refine wpAnyH_ready (rs := [0, 3]) (by kernel_rfl) (by simp) ?_
      refine AllReadyH.cons rfl (fun K hK => ?_) (AllReadyH.cons rfl (fun K hK => ?_) AllReadyH.nil)
      · have hv5c := HV5.out.cell
        go_simp
        refine hK.out _ _ cz5 (fun _ => ?_)
        clear hK K
        try simp only [Act.put, List.setIfInBounds_toArray, List.set_cons_zero, List.set_cons_succ]
        refine wpAnyH_ready (rs := [3]) (by kernel_rfl) (by simp) ?_
        refine AllReadyH.cons rfl (fun K hK => ?_) AllReadyH.nil
        go_simp
        refine (HT.out _ HW5.out.drew).mono ?_
        rintro e w6 ⟨rfl, b6⟩
        have hown6 : OwnT w6 (w.heap.size + 5) (.slice (some ⟨g, 0, none⟩) (m + 1) cap4) (m + 1) (q ++ [h]) := OwnT.kept (w := w5.drew) HO5.out b6
        have hW6 : Went (w.heap.size + 1) (w.heap.size + 5) 85 W w6 := HW5.out.drew.call b6 (Nat.le_trans hsz HW5.out.bs.1) (by omega)
        have hv6 : Boxed w6 (w.heap.size + 1) 48 (.slice (some ⟨g, 0, none⟩) (m + 1) cap4) := (b6.block _ (lt_of_at HV5.out)).trans HV5.out
        have cz6 : w6.cell? ⟨w.heap.size, 0, none⟩ = some (.int .i64 (S : Int)) := (b6.cell (p := ⟨w.heap.size, 0, none⟩) (lt_of_at HZ5.out)).trans HZ5.out.cell
        have hs6 : w.heap.size + 5 ≤ w6.heap.size := Nat.le_trans (Nat.le_trans hsz HW5.out.bs.1) b6.size
        clear b6
        go_wp2_with fail
        refine hK.out _ _ cz6 (fun _ => ?_)
        clear hK K
        try simp only [Act.put, List.setIfInBounds_toArray, List.set_cons_zero, List.set_cons_succ]
        refine wpAnyH_ready (rs := [4]) (by kernel_rfl) (by simp) ?_
        refine AllReadyH.cons rfl (fun K hK => ?_) AllReadyH.nil
        refine step_appTs w6 (by rfl) _ _ (by rfl) (w.heap.size + 5) _ (m + 1) (q ++ [h]) tx (by rfl) hown6 (by rfl) (by omega) (by omega) hs6 ?_
        intro g7 cap7 w7 hown8 hg7
        have hW7 : Went (w.heap.size + 1) (w.heap.size + 5) 85 W w7 := hW6.append (show World.ownsRow _ _ _ _ _ _ _ from hown6) (by decide) hg7 hs6 (by omega)
        have hv7 := hv6.kept hg7 (Boxed.not_row hv6 (by decide) (show World.ownsRow _ _ _ _ _ _ _ from hown6))
        have cz7 : w7.cell? ⟨w.heap.size, 0, none⟩ = some (.int .i64 (S : Int)) := (World.cell?_of_block (w := w6) (a := ⟨w.heap.size, 0, none⟩) (hg7.block w.heap.size (by omega) (fun e => by have := (World.ownsRow.lt (show World.ownsRow _ _ _ _ _ _ _ from hown6) _ e.symm).1; omega))).trans cz6
        refine hK.out _ _ cz7 (fun _ => ?_)
        clear hK K
        try simp only [Act.put, List.setIfInBounds_toArray, List.set_cons_zero, List.set_cons_succ]
        refine wpAnyH_ready (rs := [5]) (by kernel_rfl) (by simp) ?_
        refine AllReadyH.cons rfl (fun K hK => ?_) AllReadyH.nil
        have hv7c := hv7.cell
        have hv7f := hv7.frozen
        go_simp
        refine hK.out _ _ ((World.cell?_setCell_other _ _ _ _ (fun e => by have := congrArg Addr.block e; simp at this)).trans cz7) (fun _ => ?_)
        clear hK K
        try simp only [Act.put, List.setIfInBounds_toArray, List.set_cons_zero, List.set_cons_succ]
        refine wpAnyH_done (by kernel_rfl) ?_ _
        exact rt_end HI.out (hW7.store hv7 (by decide) _) (hv7.set _) (World.ownsRow.kept (show World.ownsRow _ _ _ _ _ _ _ from hown8) (grownBy_setCell' w7 (w.heap.size + 1) _) (.inr (hv7.not_row (by decide) (show World.ownsRow _ _ _ _ _ _ _ from hown8)).symm)) HQ.out _
      · go_simp
        refine (HT.out _ HW5.out.drew).mono ?_
        rintro e w6 ⟨rfl, b6⟩
        have hown6 : OwnT w6 (w.heap.size + 5) (.slice (some ⟨g, 0, none⟩) (m + 1) cap4) (m + 1) (q ++ [h]) := OwnT.kept (w := w5.drew) HO5.out b6
        have hW6 : Went (w.heap.size + 1) (w.heap.size + 5) 85 W w6 := HW5.out.drew.call b6 (Nat.le_trans hsz HW5.out.bs.1) (by omega)
        have hv6 : Boxed w6 (w.heap.size + 1) 48 (.slice (some ⟨g, 0, none⟩) (m + 1) cap4) := (b6.block _ (lt_of_at HV5.out)).trans HV5.out
        have cz6 : w6.cell? ⟨w.heap.size, 0, none⟩ = some (.int .i64 (S : Int)) := (b6.cell (p := ⟨w.heap.size, 0, none⟩) (lt_of_at HZ5.out)).trans HZ5.out.cell
        have hs6 : w.heap.size + 5 ≤ w6.heap.size := Nat.le_trans (Nat.le_trans hsz HW5.out.bs.1) b6.size
        clear b6
        go_wp2_with fail
        refine hK.out _ _ cz6 (fun _ => ?_)
        clear hK K
        try simp only [Act.put, List.setIfInBounds_toArray, List.set_cons_zero, List.set_cons_succ]
        refine wpAnyH_ready (rs := [0]) (by kernel_rfl) (by simp) ?_
        refine AllReadyH.cons rfl (fun K hK => ?_) AllReadyH.nil
        have hv6c := hv6.cell
        go_simp
        refine hK.out _ _ cz6 (fun _ => ?_)
        clear hK K
        try simp only [Act.put, List.setIfInBounds_toArray, List.set_cons_zero, List.set_cons_succ]
        refine wpAnyH_ready (rs := [4]) (by kernel_rfl) (by simp) ?_
        refine AllReadyH.cons rfl (fun K hK => ?_) AllReadyH.nil
        refine step_appTs w6 (by rfl) _ _ (by rfl) (w.heap.size + 5) _ (m + 1) (q ++ [h]) tx (by rfl) hown6 (by rfl) (by omega) (by omega) hs6 ?_
        intro g7 cap7 w7 hown8 hg7
        have hW7 : Went (w.heap.size + 1) (w.heap.size + 5) 85 W w7 := hW6.append (show World.ownsRow _ _ _ _ _ _ _ from hown6) (by decide) hg7 hs6 (by omega)
        have hv7 := hv6.kept hg7 (Boxed.not_row hv6 (by decide) (show World.ownsRow _ _ _ _ _ _ _ from hown6))
        have cz7 : w7.cell? ⟨w.heap.size, 0, none⟩ = some (.int .i64 (S : Int)) := (World.cell?_of_block (w := w6) (a := ⟨w.heap.size, 0, none⟩) (hg7.block w.heap.size (by omega) (fun e => by have := (World.ownsRow.lt (show World.ownsRow _ _ _ _ _ _ _ from hown6) _ e.symm).1; omega))).trans cz6
        refine hK.out _ _ cz7 (fun _ => ?_)
        clear hK K
        try simp only [Act.put, List.setIfInBounds_toArray, List.set_cons_zero, List.set_cons_succ]
        refine wpAnyH_ready (rs := [5]) (by kernel_rfl) (by simp) ?_
        refine AllReadyH.cons rfl (fun K hK => ?_) AllReadyH.nil
        have hv7c := hv7.cell
        have hv7f := hv7.frozen
        go_simp
        refine hK.out _ _ ((World.cell?_setCell_other _ _ _ _ (fun e => by have := congrArg Addr.block e; simp at this)).trans cz7) (fun _ => ?_)
        clear hK K
        try simp only [Act.put, List.setIfInBounds_toArray, List.set_cons_zero, List.set_cons_succ]
        refine wpAnyH_done (by kernel_rfl) ?_ _
        exact rt_end HI.out (hW7.store hv7 (by decide) _) (hv7.set _) (World.ownsRow.kept (show World.ownsRow _ _ _ _ _ _ _ from hown8) (grownBy_setCell' w7 (w.heap.size + 1) _) (.inr (hv7.not_row (by decide) (show World.ownsRow _ _ _ _ _ _ _ from hown8)).symm)) HQ.out _
    | false =>
      obtain ⟨d, hd⟩ : ∃ d : Nat, d = z - 1 := ⟨_, rfl⟩
      have e1 : (z : Int) - 1 = (d : Int) := by omega
      have hdb : d < 256 := by omega
      obtain ⟨h, hh⟩ : ∃ h, h = UInt8.ofNat d := ⟨_, rfl⟩
      obtain ⟨tx, htx⟩ : ∃ tx, tx = Rt.txt S ((l.drop k).take z) := ⟨_, rfl⟩
      have hts : tx.length ≤ 512 := by
        have h1 : (Rt.txt S ((l.drop k).take z)).length = S * ((l.drop k).take z).length := Rt.txt_len S _
        have h2 : ((l.drop k).take z).length ≤ 128 := by rw [List.length_take]; omega
        have h3 : S * ((l.drop k).take z).length ≤ 4 * 128 := Nat.mul_le_mul hS h2
        rw [htx]; omega
      have HQ : Hid (q ++ [h] ++ tx = Rt.flat S l (pre.map Subtype.val) ++ Rt.piece S l (k, z, false)) := by
        show _ = _
        rw [hq, List.append_assoc, htx, hh, hd]; rfl
      have HU : Hid ([Value.int .u8 (d : Int)] = u8V [h]) := by
        show _ = _
        rw [hh]; simp [u8V]; omega
      have HT : Hid (∀ X : World, Went (w.heap.size + 1) (w.heap.size + 5) 85 W X → Calls Try.prog 22 #[.slice (some ⟨b, off + k, none⟩) z (cap - k), .int .i64 (S : Int), .bool false] X fun e w' => e = .returned (.string ⟨tx.toArray⟩) ∧ Below X.heap.size X w') := fun X hX => by
        have hLX := HCM.out.lies (W := X) (hbel.trans (hX.bl.mono (by omega))) (by have := hX.bs.1; omega)
        have := numberText_any b (off + k) (cap - k) z S ((l.drop k).take z) X (RI.Lies.take (hLX.drop k) z) (by rw [List.length_take, List.length_drop, HN.out]; omega) (by omega) hS1 hS (Rt.fit_sub HF.out k z)
        rw [← htx] at this; exact this
      clear hd hh htx hq
      gi_wp2_with (gi_at_builtin; refine wpListIn_append_own _ rfl _ _ 48 rfl (w.heap.size + 5) 5 i0 (.int .u8 0) 1 1 Try.underlying48 hi0 hz0 hz1 hz2 rfl (by decide) v m (u8V q) rfl (World.ownsRow.alloc (show World.ownsRow _ _ _ _ _ _ _ from HR.out) _) ⟨W.heap.size, 0, none⟩ 1 1 [.int .u8 (d : Int)] rfl rfl (cell_one_new _ _ _) (by simp [Value.oneCell']) (by unfold maxLen; omega) (by omega) (Nat.le_trans hsz (by simp)) ?_)
      intro v4 w4 hown4 hg4 _
      obtain ⟨g, cap4, rfl⟩ := ownsRow_succ hown4
      have hW4 : Went (w.heap.size + 1) (w.heap.size + 5) 85 W w4 := ((Went.refl _ _ _ W).alloc hsz (by omega) (.cells #[.int .u8 (d : Int)] 5)).append (World.ownsRow.alloc (show World.ownsRow _ _ _ _ _ _ _ from HR.out) _) (by decide) hg4 (Nat.le_trans hsz (by simp)) (by omega)
      have hvA : Boxed (W.alloc (.cells #[.int .u8 (d : Int)] 5)) (w.heap.size + 1) 48 v := HV.out.alloc _
      have hv4 : Boxed w4 (w.heap.size + 1) 48 v := hvA.kept hg4 (Boxed.not_row hvA (by decide) (World.ownsRow.alloc (show World.ownsRow _ _ _ _ _ _ _ from HR.out) _))
      have hv4c := hv4.cell
      have hv4f := hv4.frozen
      obtain ⟨w5, hw5⟩ : ∃ w5, w5 = w4.setCell ⟨w.heap.size + 1, 0, none⟩ (.slice (some ⟨g, 0, none⟩) (m + 1) cap4) := ⟨_, rfl⟩
      have HW5 : Hid (Went (w.heap.size + 1) (w.heap.size + 5) 85 W w5) := by show Went _ _ _ _ _; rw [hw5]; exact hW4.store hv4 (by decide) _
      have HV5 : Hid (Boxed w5 (w.heap.size + 1) 48 (.slice (some ⟨g, 0, none⟩) (m + 1) cap4)) := by show Boxed _ _ _ _; rw [hw5]; exact hv4.set _
      have HO5 : Hid (OwnT w5 (w.heap.size + 5) (.slice (some ⟨g, 0, none⟩) (m + 1) cap4) (m + 1) (q ++ [h])) := by
        show OwnT _ _ _ _ _
        unfold OwnT
        rw [← u8V_append, ← HU.out, hw5]
        exact World.ownsRow.kept hown4 (grownBy_setCell' w4 (w.heap.size + 1) _) (.inr (hv4.not_row (by decide) hown4).symm)
      have HZ5 : Hid (Boxed w5 w.heap.size 3 (.int .i64 (S : Int))) := (HW5.out.bs.2 w.heap.size (by omega) (by omega)).trans HZb.out
      have hx5 : w5.cell? ⟨Bx, 0, none⟩ = some (.slice (some ⟨b, off + k, none⟩) z (cap - k)) := cell_two0 (HW5.out.bx _ _ _ HX.out)
      rw [hw5] at hx5
      have cz5 := HZ5.out.cell
      clear hvA hW4 hown4 hg4 hv4 HR HV HX
      gi_wp2
      rw [← hw5]
      clear hx5 hw5 hv4c hv4f c0 c1 hvc hvf
      refine round_region_held (S := fun w' => w'.cell? ⟨w.heap.size, 0, none⟩ = some (.int .i64 (S : Int))) (by kernel_rfl) (fun _ _ h => h) (by kernel_rfl) cz5 (fun _ => ?_)
      refine wpAnyH_take (i := 1) (v := (.slice (some ⟨b, off + k, none⟩) z (cap - k))) rfl (by kernel_rfl) (by kernel_rfl) (by kernel_rfl) (fun _ _ _ h => h) (Or.inl ⟨by rfl, ?_⟩) cz5 ?_
      · intro w' s1
        go_simp
      try simp only [Act.put, List.setIfInBounds_toArray, List.set_cons_zero, List.set_cons_succ]
      refine wpAnyH_take (i := 2) (v := .int .i64 (S : Int)) rfl (by kernel_rfl) (by kernel_rfl) (by kernel_rfl) (fun _ _ _ h => h) (Or.inl ⟨by rfl, ?_⟩) cz5 ?_
      · intro w' s1
        go_simp
      try simp only [Act.put, List.setIfInBounds_toArray, List.set_cons_zero, List.set_cons_succ]
      refine wpAnyH_ready (rs := [0, 3]) (by kernel_rfl) (by simp) ?_
      refine AllReadyH.cons rfl (fun K hK => ?_) (AllReadyH.cons rfl (fun K hK => ?_) AllReadyH.nil)
      · have hv5c := HV5.out.cell
        go_simp
        refine hK.out _ _ cz5 (fun _ => ?_)
        clear hK K
        try simp only [Act.put, List.setIfInBounds_toArray, List.set_cons_zero, List.set_cons_succ]
        refine wpAnyH_ready (rs := [3]) (by kernel_rfl) (by simp) ?_
        refine AllReadyH.cons rfl (fun K hK => ?_) AllReadyH.nil
        go_simp
        refine (HT.out _ HW5.out.drew).mono ?_
        rintro e w6 ⟨rfl, b6⟩
        have hown6 : OwnT w6 (w.heap.size + 5) (.slice (some ⟨g, 0, none⟩) (m + 1) cap4) (m + 1) (q ++ [h]) := OwnT.kept (w := w5.drew) HO5.out b6
        have hW6 : Went (w.heap.size + 1) (w.heap.size + 5) 85 W w6 := HW5.out.drew.call b6 (Nat.le_trans hsz HW5.out.bs.1) (by omega)
        have hv6 : Boxed w6 (w.heap.size + 1) 48 (.slice (some ⟨g, 0, none⟩) (m + 1) cap4) := (b6.block _ (lt_of_at HV5.out)).trans HV5.out
        have cz6 : w6.cell? ⟨w.heap.size, 0, none⟩ = some (.int .i64 (S : Int)) := (b6.cell (p := ⟨w.heap.size, 0, none⟩) (lt_of_at HZ5.out)).trans HZ5.out.cell
        have hs6 : w.heap.size + 5 ≤ w6.heap.size := Nat.le_trans (Nat.le_trans hsz HW5.out.bs.1) b6.size
        clear b6
        go_wp2_with fail
        refine hK.out _ _ cz6 (fun _ => ?_)
        clear hK K
        try simp only [Act.put, List.setIfInBounds_toArray, List.set_cons_zero, List.set_cons_succ]
        refine wpAnyH_ready (rs := [4]) (by kernel_rfl) (by simp) ?_
        refine AllReadyH.cons rfl (fun K hK => ?_) AllReadyH.nil
        refine step_appTs w6 (by rfl) _ _ (by rfl) (w.heap.size + 5) _ (m + 1) (q ++ [h]) tx (by rfl) hown6 (by rfl) (by omega) (by omega) hs6 ?_
        intro g7 cap7 w7 hown8 hg7
        have hW7 : Went (w.heap.size + 1) (w.heap.size + 5) 85 W w7 := hW6.append (show World.ownsRow _ _ _ _ _ _ _ from hown6) (by decide) hg7 hs6 (by omega)
        have hv7 := hv6.kept hg7 (Boxed.not_row hv6 (by decide) (show World.ownsRow _ _ _ _ _ _ _ from hown6))
        have cz7 : w7.cell? ⟨w.heap.size, 0, none⟩ = some (.int .i64 (S : Int)) := (World.cell?_of_block (w := w6) (a := ⟨w.heap.size, 0, none⟩) (hg7.block w.heap.size (by omega) (fun e => by have := (World.ownsRow.lt (show World.ownsRow _ _ _ _ _ _ _ from hown6) _ e.symm).1; omega))).trans cz6
        refine hK.out _ _ cz7 (fun _ => ?_)
        clear hK K
        try simp only [Act.put, List.setIfInBounds_toArray, List.set_cons_zero, List.set_cons_succ]
        refine wpAnyH_ready (rs := [5]) (by kernel_rfl) (by simp) ?_
        refine AllReadyH.cons rfl (fun K hK => ?_) AllReadyH.nil
        have hv7c := hv7.cell
        have hv7f := hv7.frozen
        go_simp
        refine hK.out _ _ ((World.cell?_setCell_other _ _ _ _ (fun e => by have := congrArg Addr.block e; simp at this)).trans cz7) (fun _ => ?_)
        clear hK K
        try simp only [Act.put, List.setIfInBounds_toArray, List.set_cons_zero, List.set_cons_succ]
        refine wpAnyH_done (by kernel_rfl) ?_ _
        exact rt_end HI.out (hW7.store hv7 (by decide) _) (hv7.set _) (World.ownsRow.kept (show World.ownsRow _ _ _ _ _ _ _ from hown8) (grownBy_setCell' w7 (w.heap.size + 1) _) (.inr (hv7.not_row (by decide) (show World.ownsRow _ _ _ _ _ _ _ from hown8)).symm)) HQ.out _
      · go_simp
        refine (HT.out _ HW5.out.drew).mono ?_
        rintro e w6 ⟨rfl, b6⟩
        have hown6 : OwnT w6 (w.heap.size + 5) (.slice (some ⟨g, 0, none⟩) (m + 1) cap4) (m + 1) (q ++ [h]) := OwnT.kept (w := w5.drew) HO5.out b6
        have hW6 : Went (w.heap.size + 1) (w.heap.size + 5) 85 W w6 := HW5.out.drew.call b6 (Nat.le_trans hsz HW5.out.bs.1) (by omega)
        have hv6 : Boxed w6 (w.heap.size + 1) 48 (.slice (some ⟨g, 0, none⟩) (m + 1) cap4) := (b6.block _ (lt_of_at HV5.out)).trans HV5.out
        have cz6 : w6.cell? ⟨w.heap.size, 0, none⟩ = some (.int .i64 (S : Int)) := (b6.cell (p := ⟨w.heap.size, 0, none⟩) (lt_of_at HZ5.out)).trans HZ5.out.cell
        have hs6 : w.heap.size + 5 ≤ w6.heap.size := Nat.le_trans (Nat.le_trans hsz HW5.out.bs.1) b6.size
        clear b6
        go_wp2_with fail
        refine hK.out _ _ cz6 (fun _ => ?_)
        clear hK K
        try simp only [Act.put, List.setIfInBounds_toArray, List.set_cons_zero, List.set_cons_succ]
        refine wpAnyH_ready (rs := [0]) (by kernel_rfl) (by simp) ?_
        refine AllReadyH.cons rfl (fun K hK => ?_) AllReadyH.nil
        have hv6c := hv6.cell
        go_simp
        refine hK.out _ _ cz6 (fun _ => ?_)
        clear hK K
        try simp only [Act.put, List.setIfInBounds_toArray, List.set_cons_zero, List.set_cons_succ]
        refine wpAnyH_ready (rs := [4]) (by kernel_rfl) (by simp) ?_
        refine AllReadyH.cons rfl (fun K hK => ?_) AllReadyH.nil
        refine step_appTs w6 (by rfl) _ _ (by rfl) (w.heap.size + 5) _ (m + 1) (q ++ [h]) tx (by rfl) hown6 (by rfl) (by omega) (by omega) hs6 ?_
        intro g7 cap7 w7 hown8 hg7
        have hW7 : Went (w.heap.size + 1) (w.heap.size + 5) 85 W w7 := hW6.append (show World.ownsRow _ _ _ _ _ _ _ from hown6) (by decide) hg7 hs6 (by omega)
        have hv7 := hv6.kept hg7 (Boxed.not_row hv6 (by decide) (show World.ownsRow _ _ _ _ _ _ _ from hown6))
        have cz7 : w7.cell? ⟨w.heap.size, 0, none⟩ = some (.int .i64 (S : Int)) := (World.cell?_of_block (w := w6) (a := ⟨w.heap.size, 0, none⟩) (hg7.block w.heap.size (by omega) (fun e => by have := (World.ownsRow.lt (show World.ownsRow _ _ _ _ _ _ _ from hown6) _ e.symm).1; omega))).trans cz6
        refine hK.out _ _ cz7 (fun _ => ?_)
        clear hK K
        try simp only [Act.put, List.setIfInBounds_toArray, List.set_cons_zero, List.set_cons_succ]
        refine wpAnyH_ready (rs := [5]) (by kernel_rfl) (by simp) ?_
        refine AllReadyH.cons rfl (fun K hK => ?_) AllReadyH.nil
        have hv7c := hv7.cell
        have hv7f := hv7.frozen
        go_simp
        refine hK.out _ _ ((World.cell?_setCell_other _ _ _ _ (fun e => by have := congrArg Addr.block e; simp at this)).trans cz7) (fun _ => ?_)
        clear hK K
        try simp only [Act.put, List.setIfInBounds_toArray, List.set_cons_zero, List.set_cons_succ]
        refine wpAnyH_done (by kernel_rfl) ?_ _
        exact rt_end HI.out (hW7.store hv7 (by decide) _) (hv7.set _) (World.ownsRow.kept (show World.ownsRow _ _ _ _ _ _ _ from hown8) (grownBy_setCell' w7 (w.heap.size + 1) _) (.inr (hv7.not_row (by decide) (show World.ownsRow _ _ _ _ _ _ _ from hown8)).symm)) HQ.out _
  case done =>
    rintro D ys W hD hys ⟨⟨v, hv, hrow⟩, hZb, hbel, hsz⟩ hK
    rw [hys] at hrow
    have hc := hv.cell
    have htx := hrow.text
    have hall : Rt.flat S l (Rn.from_ 2 128 l 0) = Rt.all S l := rfl
    rw [hall] at htx
    clear HS
    gi_wp2
    refine ⟨by simp, .inl ⟨_, _, rfl, run_takeDeferred hK, ?_⟩⟩
    exact ⟨_, results_tmp rfl _ _ _, rfl, hbel.trans (belowK_b (w := w) (Nat.le_refl _) W D _ _ (by have := HZ.out; omega) hK rfl rfl)⟩
  case stop =>
    rintro D c pre W _ _ h _
    exact h.elim
end Go.Proofs.Ytcahppmnfoopkaa

/- The exact law of RunPut, walked. -/
namespace Go.Proofs.Ytcahppmnfoopkaa
open Go.RowKit

def Rt.yes (s : Int) (l : List Int) : Bool := decide (1 ≤ s ∧ s ≤ 4) && decide (l.length ≤ 1000) && Rt.fit s.toNat l
def Rt.ans (s : Int) (l : List Int) : List UInt8 := if Rt.yes s l then Rt.all s.toNat l else []

theorem Rt.pow_lt {S : Nat} (h : S ≤ 4) : 256 ^ S ≤ 4294967296 := Nat.le_trans (Nat.pow_le_pow_right (by omega) h) (by decide)

set_option maxHeartbeats 400000 in
theorem l7Run_nil (a : Option Addr) (cap S : Nat) (w : World) :
    Calls Try.prog 36 #[.slice a 0 cap, .int .i64 (S : Int)] w fun e w' => e = .returned (.string ⟨([] : List UInt8).toArray⟩) ∧ w' = w := by
  go_enter Try.func36, Try.ntmps36
  go_wp2_with fail
  go_loop [5, 6] (fun o i => o = .string ⟨#[]⟩ ∧ i = .int .i64 0) (fun _ _ => 0)
  case atStart => exact ⟨rfl, rfl⟩
  case round =>
    obtain ⟨rfl, rfl⟩ := hrel
    go_wp2_with fail
    go_ret
    exact ⟨rfl, rfl⟩

set_option maxHeartbeats 1000000 in
theorem impl_runPut (a : Option Addr) (n cap : Nat) (s : Int) (l : List Int) (w : World) (hl : Ints w a l) (hn : l.length = n) (hnb : n ≤ 1048576) (hcap : n ≤ cap) :
    Calls Try.prog 43 #[.slice a n cap, .int .i64 s] w fun e w' => e = .returned (.string ⟨(Rt.ans s l).toArray⟩) ∧ Below w.heap.size w w' := by
  cases hy : Rt.yes s l
  · have HE : Hid (Rt.ans s l = []) := by show _ = _; unfold Rt.ans; rw [hy]; rfl
    by_cases h1 : s < 1
    · have d1 : decide (s < 1) = true := by simpa using h1
      clear hl hn hy
      go_enter Try.func43, Try.ntmps43
      go_wp2_with fail
      go_ret
      exact ⟨by rw [HE.out]; rfl, (Below.refl _ _).alloc (Nat.le_refl _) _⟩
    · have d1 : decide (s < 1) = false := by simpa using h1
      by_cases h4 : s > 4
      · have d4 : decide (s > 4) = true := by simpa using h4
        clear hl hn hy
        go_enter Try.func43, Try.ntmps43
        go_wp2_with fail
        go_ret
        exact ⟨by rw [HE.out]; rfl, (Below.refl _ _).alloc (Nat.le_refl _) _⟩
      · have d4 : decide (s > 4) = false := by simpa using h4
        by_cases h2 : n ≤ 1000
        · have d3 : decide ((n : Int) > 1000) = false := by simp; omega
          obtain ⟨S, rfl⟩ := Int.eq_ofNat_of_zero_le (show 0 ≤ s by omega)
          have hF : Rt.fit S l = false := by
            unfold Rt.yes at hy
            rw [decide_eq_true (show 1 ≤ (S : Int) ∧ (S : Int) ≤ 4 by omega), decide_eq_true (show l.length ≤ 1000 by omega), Int.toNat_natCast] at hy
            simpa using hy
          obtain ⟨B, hB⟩ : ∃ B, B = 8 * S := ⟨_, rfl⟩
          have e8 : (8 : Int) * (S : Int) = (B : Int) := by omega
          have HNF : Hid (∀ X : World, Below w.heap.size w X → Calls Try.prog 61 #[.slice a n cap, .int .i64 (B : Int)] X fun e w' => e = .returned (.bool false) ∧ w' = X) := fun X hX => by
            have := numbersFit_any a n cap B S l X (hl.kept hX) hn (by omega) hB (by omega)
            rw [hF] at this; exact this
          clear hl hn hy hF hB
          go_enter Try.func43, Try.ntmps43
          go_wp2_with fail
          refine (HNF.out _ ((Below.refl _ _).alloc (Nat.le_refl _) _)).mono ?_
          rintro e w1 ⟨rfl, rfl⟩
          go_wp2_with fail
          go_ret
          exact ⟨by rw [HE.out]; rfl, (Below.refl _ _).alloc (Nat.le_refl _) _⟩
        · have d3 : decide ((n : Int) > 1000) = true := by simp; omega
          clear hl hn hy
          go_enter Try.func43, Try.ntmps43
          go_wp2_with fail
          go_ret
          exact ⟨by rw [HE.out]; rfl, (Below.refl _ _).alloc (Nat.le_refl _) _⟩
  · have hE : Rt.ans s l = Rt.all s.toNat l := by unfold Rt.ans; rw [hy]; rfl
    unfold Rt.yes at hy
    simp only [Bool.and_eq_true, decide_eq_true_eq] at hy
    obtain ⟨⟨⟨h1, h4⟩, h2⟩, hf⟩ := hy
    obtain ⟨S, rfl⟩ := Int.eq_ofNat_of_zero_le (show 0 ≤ s by omega)
    rw [Int.toNat_natCast] at hf hE
    rw [hE]
    exact callsIn_wide.1 (impl_runPut_in a n cap S l w hl hn (by omega) hcap (by omega) (by omega) hf)

end Go.Proofs.Ytcahppmnfoopkaa
