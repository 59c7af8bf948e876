/- The work of ChunksGet. -/
import Derived.Test.YtgbcjkpmiceddaaCkWalks
import Derived.Test.YtgbcjkpmiceddaaChOwn
import Derived.Test.YtgbcjkpmiceddaaOffB
import Derived.Shelf.Abstract
import Derived.RangeFuncBox
import Derived.Deep.RegionHeld
namespace Go.Proofs.Ytgbcjkpmiceddaa
open Go.RowKit Go.Shelf

theorem cg_lt {w : World} {k : Nat} {T : TypeId} {v : Value} (hb : Boxed w k T v) : k < w.heap.size := (Array.getElem?_eq_some_iff.1 hb).1
theorem Off.boxC {B O base : Nat} {w w' : World} (h : Off B O base w w') {k : Nat} {T : TypeId} {v : Value} (hb : Boxed w k T v) (h0 : k < base) (h1 : k ≠ B) (h2 : k ≠ O) : Boxed w' k T v := (h.rest k h0 h1 h2).trans hb
theorem Off.ofBelowC {B O base : Nat} {w w' : World} (h : Below w.heap.size w w') (hb : base ≤ w.heap.size) : Off B O base w w' := ⟨h.os, h.tape, h.output, h.size, fun k hk _ _ => h.block k (by omega)⟩

/-- on the way: the cursor, the list's variable, the list -/
def CgSt (w : World) (B LB base : Nat) (s : ByteArray) (A : Nat) (v : Value) (l : List (ByteArray × ByteArray)) (wr : World) : Prop :=
  Cc wr B s A ∧ Off B LB base w wr ∧ base ≤ wr.heap.size ∧ Boxed wr LB 24 v ∧ OwnC wr base v l.length l
theorem CgSt.next {w wr w2 : World} {B LB base A A' : Nat} {s : ByteArray} {v : Value} {l : List (ByteArray × ByteArray)} (h : CgSt w B LB base s A v l wr) (o : Only B wr w2) (hc : Cc w2 B s A') (h1 : LB ≠ B) (h2 : B < base) : CgSt w B LB base s A' v l w2 := by
  obtain ⟨a1, a2, a3, a4, a5⟩ := h
  exact ⟨hc, a2.trans (o.off LB base a3), Nat.le_trans a3 o.below.size, (o.rest LB (cg_lt a4) h1).trans a4, a5.same (fun k hk hb => o.rest k hk (by omega))⟩
theorem CgSt.drewN {w wr : World} {B LB base A : Nat} {s : ByteArray} {v : Value} {l : List (ByteArray × ByteArray)} (h : CgSt w B LB base s A v l wr) (q : Nat) : CgSt w B LB base s A v l (wr.drewN q) := by
  obtain ⟨a1, a2, a3, a4, a5⟩ := h
  exact ⟨a1, a2.drewN q, a3, a4, a5⟩
theorem CgSt.drew {w wr : World} {B LB base A : Nat} {s : ByteArray} {v : Value} {l : List (ByteArray × ByteArray)} (h : CgSt w B LB base s A v l wr) : CgSt w B LB base s A v l wr.drew := by
  obtain ⟨a1, a2, a3, a4, a5⟩ := h
  exact ⟨a1, a2.drewN 1, a3, a4, a5⟩
theorem CgSt.up {w wr w2 : World} {B LB base A : Nat} {s : ByteArray} {v : Value} {l : List (ByteArray × ByteArray)} (h : CgSt w B LB base s A v l wr) (b : Below wr.heap.size wr w2) : CgSt w B LB base s A v l w2 := by
  obtain ⟨a1, a2, a3, a4, a5⟩ := h
  exact ⟨a1.kept b, a2.trans (Off.ofBelowC b a3), Nat.le_trans a3 b.size, (b.block LB (cg_lt a4)).trans a4, a5.same (fun k hk _ => b.block k hk)⟩
theorem OwnC.low {w : World} {B n k : Nat} {v : Value} {l : List (ByteArray × ByteArray)} (h : OwnC w B v n l) (hk : k < B) : some k ≠ v.ownBlock := fun e => by
  have := (World.ownsRow.lt (show World.ownsRow _ _ _ _ _ _ _ from h) k (by first | exact e | exact e.symm)).1
  omega
/-- one more was appended, and laid into the variable -/
theorem CgSt.more {w w3 w4 : World} {B LB base A : Nat} {s : ByteArray} {v v' : Value} {l l' : List (ByteArray × ByteArray)} (h : CgSt w B LB base s A v l w3) (hg : w3.grownBy w4 v.ownBlock) (ho : OwnC w4 base v' l'.length l') (h1 : LB ≠ B) (h2 : B < base) (h3 : LB < base) :
    CgSt w B LB base s A v' l' (w4.setCell ⟨LB, 0, none⟩ v') := by
  obtain ⟨a1, a2, a3, a4, a5⟩ := h
  have k1 : ∀ k, k < base → w4.heap[k]? = w3.heap[k]? := fun k hk => hg.block k (by omega) (a5.low hk)
  have bLB : Boxed w4 LB 24 v := (k1 LB h3).trans a4
  refine ⟨(Below.heap_setCell w4 ⟨LB, 0, none⟩ _ B (fun e => h1 e.symm)).trans ((k1 B h2).trans a1), ⟨?_, ?_, ?_, ?_, fun k hk n1 n2 => ?_⟩, ?_, bLB.set _, ?_⟩
  · exact hg.os.trans a2.os
  · exact hg.tape.trans a2.tape
  · exact hg.output.trans a2.output
  · rw [World.size_setCell]; exact Nat.le_trans a2.size hg.size
  · exact (Below.heap_setCell w4 ⟨LB, 0, none⟩ _ k n2).trans ((k1 k hk).trans (a2.rest k hk n1 n2))
  · rw [World.size_setCell]; exact Nat.le_trans a3 hg.size
  · exact ho.same (fun k hk hb => Below.heap_setCell w4 ⟨LB, 0, none⟩ _ k (fun e => by have e2 : k = LB := e; omega))

/-- how the work ends -/
def CwEnd (w : World) (B LB base : Nat) (s : ByteArray) (e : Ending) (w' : World) : Prop :=
  Off B LB base w w' ∧ ((e = .returned (.tuple #[]) ∧ ∃ l, Cg.ans s = some l ∧ ∃ v, Boxed w' LB 24 v ∧ OwnC w' base v l.length l) ∨ ∃ c, e = fault c ∧ c ≠ 0 ∧ Cg.ans s = none)

theorem sign_ne {t : ByteArray} (h : ¬ t = Cg.signB) : ¬ t.toList = [137, 80, 78, 71, 13, 10, 26, 10] := fun e => h (by
  rw [ByteArray.toList_eq] at e
  exact ByteArray.ext (Array.toList_inj.1 e))

def cellNatC : Option Value → Nat
  | some (.int _ z) => z.toNat
  | _ => 0
theorem cgMeasure {w1 w6 : World} {B A A' : Nat} {s : ByteArray} (h : Cc w1 B s A) (h' : Cc w6 B s A') (hA : A < s.size) (hl : A < A') : s.size - cellNatC (w6.cell? ⟨B, 1, none⟩) < s.size - cellNatC (w1.cell? ⟨B, 1, none⟩) := by
  rw [h.cells.2.1, h'.cells.2.1]
  show s.size - ((A' : Int)).toNat < s.size - ((A : Int)).toNat
  rw [Int.toNat_natCast, Int.toNat_natCast]; omega

set_option maxHeartbeats 4000000 in
set_option maxRecDepth 20000 in
theorem cgWork_any (IB LB B : Nat) (s : ByteArray) (w : World) (hIB : Boxed w IB 36 (.pointer (some ⟨B, 0, none⟩))) (hLB : Boxed w LB 24 (.slice none 0 0)) (hB : Cc w B s 0) (hs : s.size ≤ 9000) (d1 : IB ≠ B) (d2 : IB ≠ LB) (d3 : LB ≠ B) :
    Calls Try.prog 18 #[.pointer (some ⟨IB, 0, none⟩), .pointer (some ⟨LB, 0, none⟩)] w (CwEnd w B LB w.heap.size s) := by
  obtain ⟨base, hbase⟩ : ∃ base, base = w.heap.size := ⟨_, rfl⟩
  rw [← hbase]
  have i1 : IB < base := by rw [hbase]; exact cg_lt hIB
  have i2 : LB < base := by rw [hbase]; exact cg_lt hLB
  have i3 : B < base := by rw [hbase]; exact hB.lt
  have hbw : base ≤ w.heap.size := by omega
  have HK : Hid (Boxed w IB 36 (.pointer (some ⟨B, 0, none⟩))) := hIB
  have c0 := hIB.cell
  have HI : Hid (CgSt w B LB base s 0 (.slice none 0 0) [] w) := ⟨hB, Off.refl _ _ _ _, hbw, hLB, World.ownsRow_nil _ _ _ _⟩
  clear hIB hLB hB hbase
  obtain ⟨i0, hi0, hz0, hz1, hz2⟩ := info_parts info_chunk
  go_enter Try.func18, Try.ntmps18
  go_wp2_with fail
  by_cases h8 : 8 ≤ s.size
  rotate_left
  · have hno : Cg.ans s = none := Cg.ans_no fun h => h8 h.2.1
    refine (show Calls Try.prog 20 #[.pointer (some ⟨B, 0, none⟩), .int .i64 8] w _ from bt_piece_no _ B 0 8 s w HI.out.1 (by omega) (by omega) (by omega)).mono ?_
    rintro e w1 ⟨rfl, -, h2, -⟩
    have HF : Hid (CwEnd w B LB base s (fault 2) w1) := ⟨h2.off LB base hbw, .inr ⟨2, rfl, by decide, hno⟩⟩
    clear h2 hno HI HK c0
    unfold fault
    go_wp2_with fail
    exact ⟨rfl, HF.out⟩
  refine (show Calls Try.prog 20 #[.pointer (some ⟨B, 0, none⟩), .int .i64 8] w _ from bt_piece_yes _ B 0 8 s w HI.out.1 (by omega) (by omega)).mono ?_
  rintro e w1 ⟨rfl, h2, h3, -⟩
  have HI1 : Hid (CgSt w B LB base s 8 (.slice none 0 0) [] w1) := HI.out.next h3 h2 d3 i3
  rw [show 0 + 8 = 8 from rfl]
  obtain ⟨t, ht⟩ : ∃ t, t = s.extract 0 8 := ⟨_, rfl⟩
  have HT : Hid (t = s.extract 0 8) := ht
  rw [← ht]
  clear h2 h3 HI ht c0
  by_cases hsg : t = Cg.signB
  rotate_left
  · have hno : Cg.ans s = none := Cg.ans_no fun h => hsg (by rw [HT.out]; exact h.2.2)
    have HF : Hid (CwEnd w B LB base s (fault 1) w1) := ⟨HI1.out.2.1, .inr ⟨1, rfl, by decide, hno⟩⟩
    have hsg3 := sign_ne hsg
    clear hno HI1 HK hsg
    go_wp2_with fail
    refine (insist_not _ 1 _ (by simp [hsg3])).mono ?_
    rintro e w2 ⟨rfl, hw2⟩
    replace hw2 := hw2.symm
    subst hw2
    unfold fault
    go_wp2_with fail
    exact ⟨rfl, HF.out⟩
  have HV : Hid (Cg.ans s = Cg.get s 8 []) := Cg.ans_ok ⟨hs, h8, by rw [← HT.out]; exact hsg⟩
  have hsg3 : t = (⟨#[137, 80, 78, 71, 13, 10, 26, 10]⟩ : ByteArray) := hsg
  clear hsg HT
  subst hsg3
  go_wp2_with fail
  refine (insist_of _ 1 _ (by first | rfl | simp)).mono ?_
  rintro e w2 ⟨rfl, hw2⟩
  replace hw2 := hw2.symm
  subst hw2
  go_wp2_with fail
  go_loopw [8] (fun _ wr => ∃ (A : Nat) (l : List (ByteArray × ByteArray)), A ≤ s.size ∧ l.length ≤ A ∧ Hid (Cg.ans s = Cg.get s A l) ∧ Hid (∃ v, CgSt w B LB base s A v l wr)) (fun _ wr => s.size - cellNatC (wr.cell? ⟨B, 1, none⟩))
  case atStart => exact ⟨8, [], h8, Nat.zero_le _, HV.out, _, HI1.out⟩
  case round =>
    obtain ⟨A, l, hA, hlA, HG, HS⟩ := hrel
    clear HI1 HV
    obtain ⟨v, hst⟩ := HS.out
    have c1 := (hst.2.1.boxC HK.out i1 d1 d2).cell
    have HLF : Hid (Calls Try.prog 21 #[.pointer (some ⟨B, 0, none⟩)] wr fun e w' => e = .returned (.int .i64 ((s.size - A : Nat) : Int)) ∧ ∃ q, w' = wr.drewN q) := bt_left_any _ B A s wr hst.1 (by omega) hA
    have HST : Hid (CgSt w B LB base s A v l wr) := hst
    clear hst HS
    by_cases hlt : A < s.size
    · obtain ⟨L, hL⟩ : ∃ L, L = s.size - A := ⟨_, rfl⟩
      have hL0 : 0 < L := by omega
      have hL0i : (0 : Int) < (L : Int) := by omega
      rw [← hL] at HLF
      clear hL
      go_wp2_with fail
      refine HLF.out.mono ?_
      rintro e w1 ⟨rfl, q, hq⟩
      have HS1 : Hid (CgSt w B LB base s A v l w1) := by rw [hq]; exact HST.out.drewN q
      have HMS : Hid (w1.cell? ⟨B, 1, none⟩ = wr.cell? ⟨B, 1, none⟩) := by rw [hq]; rfl
      clear hq HLF HST c1
      have k1 := (HS1.out.2.1.boxC HK.out i1 d1 d2).cell
      have kL := HS1.out.2.2.2.1.cell
      by_cases hok : Cg.Ok s A
      · obtain ⟨x, hx⟩ : ∃ x, x = Cg.nm s A := ⟨_, rfl⟩
        obtain ⟨y, hy⟩ : ∃ y, y = Cg.bd s A := ⟨_, rfl⟩
        have HGN : Hid (Cg.ans s = Cg.get s (A + 12 + Cg.n4 s A) (l ++ [(x, y)])) := by show _ = _; rw [HG.out, Cg.get_more hlt hok, hx, hy]
        have HCK : Hid (Calls Try.prog 22 #[.pointer (some ⟨B, 0, none⟩)] w1.drew fun e w' => e = .returned (.agg #[.string x, .string y]) ∧ CgSt w B LB base s (A + 12 + Cg.n4 s A) v l w') := by
          refine (chunk_any B A s w1.drew HS1.out.1 hs hA).mono ?_
          rintro e w' ⟨ho, (⟨_, rfl, hc⟩ | ⟨h, _⟩)⟩
          · exact ⟨by rw [hx, hy], HS1.out.drew.next ho hc d3 i3⟩
          · exact absurd hok h
        have hA2 : A + 12 + Cg.n4 s A ≤ s.size := hok.1
        have hA3 : A < A + 12 + Cg.n4 s A := by omega
        have hA4 : l.length + 1 ≤ A + 12 + Cg.n4 s A := by omega
        have HM : Hid (∀ w6, Cc w6 B s (A + 12 + Cg.n4 s A) → s.size - cellNatC (w6.cell? ⟨B, 1, none⟩) < s.size - cellNatC (wr.cell? ⟨B, 1, none⟩)) := fun w6 h6 => by rw [← HMS.out]; exact cgMeasure HS1.out.1 h6 hlt hA3
        generalize A + 12 + Cg.n4 s A = A' at *
        clear hok hx hy HG HMS
        have hm63 : l.length + 1 ≤ maxLen := by unfold maxLen; omega
        have hlen : (l.length + 1) * 32 ≤ 140737488355328 := by omega
        have hone : ∀ u ∈ [Value.string x, Value.string y], u.oneCell' = true := by intro u hu; simp at hu; rcases hu with rfl | rfl <;> rfl
        have HN : Hid (∀ (g cap : Nat) (w3 w4 : World), CgSt w B LB base s A' v l w3 → w4.ownsRow base 46 2 (.slice (some ⟨g, 0, none⟩) (l.length + 1) cap) (l.length + 1) (chCells l ++ [.string x, .string y]) → w3.grownBy w4 v.ownBlock → CgSt w B LB base s A' (.slice (some ⟨g, 0, none⟩) (l.length + 1) cap) (l ++ [(x, y)]) (w4.setCell ⟨LB, 0, none⟩ (.slice (some ⟨g, 0, none⟩) (l.length + 1) cap))) := fun g cap w3 w4 h3 h4 hg =>
          h3.more hg (by rw [List.length_append]; exact OwnC.more h4) d3 i3 i2
        go_wp2_with fail
        refine wp_region_held_drew (S := fun w' => w'.cell? ⟨IB, 0, none⟩ = some (.pointer (some ⟨B, 0, none⟩))) (by kernel_rfl) k1 (fun hHeld => ?_)
        refine wpAnyH_take (i := 1) (v := .pointer (some ⟨B, 0, none⟩)) rfl (by kernel_rfl) (by kernel_rfl) (by kernel_rfl) (fun _ _ _ h => h) (Or.inl ⟨by rfl, ?_⟩) hHeld ?_
        · intro w' hSw
          go_simp
        try simp only [Act.put, List.setIfInBounds_toArray]
        refine wpAnyH_ready (rs := [0, 2]) (by kernel_rfl) (by simp) ?_
        refine AllReadyH.cons rfl (fun K hK => ?_) (AllReadyH.cons rfl (fun K hK => ?_) AllReadyH.nil)
        · go_simp
          refine hK.out _ _ k1 (fun hHeld => ?_)
          clear hK K
          try simp only [Act.put, List.setIfInBounds_toArray, List.set_cons_zero, List.set_cons_succ]
          refine wpAnyH_ready (rs := [2]) (by kernel_rfl) (by simp) ?_
          refine AllReadyH.cons rfl (fun K hK => ?_) AllReadyH.nil
          go_simp
          refine HCK.out.mono ?_
          rintro e w2 ⟨rfl, h2⟩
          have HS2 : Hid (CgSt w B LB base s A' v l w2) := h2
          clear h2
          have k2 := (HS2.out.2.1.boxC HK.out i1 d1 d2).cell
          have kL2 := HS2.out.2.2.2.1.cell
          refine hK.out _ _ k2 (fun hHeld => ?_)
          clear hK K
          try simp only [Act.put, List.setIfInBounds_toArray, List.set_cons_zero, List.set_cons_succ]
          refine wpAnyH_ready (rs := [3]) (by kernel_rfl) (by simp) ?_
          refine AllReadyH.cons rfl (fun K hK => ?_) AllReadyH.nil
          go_simp
          have HS3 : Hid (CgSt w B LB base s A' v l (w2.alloc (.cells #[.string x, .string y] 46))) := HS2.out.up ((Below.refl _ _).alloc (Nat.le_refl _) _)
          have k3 := (HS3.out.2.1.boxC HK.out i1 d1 d2).cell
          have kL3 := HS3.out.2.2.2.1.cell
          refine hK.out _ _ k3 (fun hHeld => ?_)
          clear hK K
          try simp only [Act.put, List.setIfInBounds_toArray, List.set_cons_zero, List.set_cons_succ]
          refine wpAnyH_ready (rs := [4]) (by kernel_rfl) (by simp) ?_
          refine AllReadyH.cons rfl (fun K hK => ?_) AllReadyH.nil
          refine step_append_lies _ (by rfl) _ _ _ (by rfl) base 46 i0 (.agg #[.string ⟨#[]⟩, .string ⟨#[]⟩]) 2 32 Try.underlying24 hi0 hz0 hz1 hz2 rfl (by decide) v l.length (chCells l) (by rfl) (show World.ownsRow _ _ _ _ _ _ _ from HS3.out.2.2.2.2) ⟨w2.heap.size, 0, none⟩ 1 1 [.string x, .string y] (by rfl) rfl (World.news_of_block (heap_alloc_new _ _)) hone (by decide) hm63 hlen HS3.out.2.2.1 _ rfl ?_
          intro g cap2 w4 hown4 hgrow hat hlt4
          have HS5 : Hid (CgSt w B LB base s A' (.slice (some ⟨g, 0, none⟩) (l.length + 1) cap2) (l ++ [(x, y)]) (w4.setCell ⟨LB, 0, none⟩ (.slice (some ⟨g, 0, none⟩) (l.length + 1) cap2))) := HN.out g cap2 _ w4 HS3.out hown4 hgrow
          have f4 : ∀ k, k < base → w4.heap[k]? = (w2.alloc (.cells #[.string x, .string y] 46)).heap[k]? := fun k hk => hgrow.block k (by have := HS3.out.2.2.1; omega) (HS3.out.2.2.2.2.low hk)
          have b4 : Boxed w4 LB 24 v := (f4 LB i2).trans HS3.out.2.2.2.1
          have k4 : w4.cell? ⟨IB, 0, none⟩ = some (.pointer (some ⟨B, 0, none⟩)) := (World.cell?_of_block (a := ⟨IB, 0, none⟩) (f4 IB i1)).trans k3
          have kL4 := b4.cell
          have zL4 := b4.frozen
          simp only [List.getElem_toArray, List.getElem_cons_succ, List.getElem_cons_zero, Act.put, List.setIfInBounds_toArray, List.set_cons_zero, List.set_cons_succ]
          refine hK.out _ _ k4 (fun hHeld => ?_)
          clear hK K b4 f4 hgrow hown4 hat
          refine wpAnyH_ready (rs := [5]) (by kernel_rfl) (by simp) ?_
          refine AllReadyH.cons rfl (fun K hK => ?_) AllReadyH.nil
          go_simp
          have k5 := (HS5.out.2.1.boxC HK.out i1 d1 d2).cell
          refine hK.out _ _ k5 (fun hHeld => ?_)
          clear hK K hHeld
          refine wpAnyH_done (by kernel_rfl) ?_ _
          have HME := HM.out _ HS5.out.1
          have HMH : Hid _ := HME
          clear HM HME HN HS3 HS2 HCK HS1 k1 k2 k3 k4 k5 kL kL2 kL3 kL4 zL4 hone hm63 hlen
          go_wp2_with fail
          go_roundw
          case rel => exact ⟨A', l ++ [(x, y)], hA2, by rw [List.length_append]; exact hA4, HGN.out, _, HS5.out⟩
          case measure => exact HMH.out
        · go_simp
          refine HCK.out.mono ?_
          rintro e w2 ⟨rfl, h2⟩
          have HS2 : Hid (CgSt w B LB base s A' v l w2) := h2
          clear h2
          have k2 := (HS2.out.2.1.boxC HK.out i1 d1 d2).cell
          have kL2 := HS2.out.2.2.2.1.cell
          refine hK.out _ _ k2 (fun hHeld => ?_)
          clear hK K
          try simp only [Act.put, List.setIfInBounds_toArray, List.set_cons_zero, List.set_cons_succ]
          refine wpAnyH_ready (rs := [0, 3]) (by kernel_rfl) (by simp) ?_
          refine AllReadyH.cons rfl (fun K hK => ?_) (AllReadyH.cons rfl (fun K hK => ?_) AllReadyH.nil)
          · go_simp
            refine hK.out _ _ k2 (fun hHeld => ?_)
            clear hK K
            try simp only [Act.put, List.setIfInBounds_toArray, List.set_cons_zero, List.set_cons_succ]
            refine wpAnyH_ready (rs := [3]) (by kernel_rfl) (by simp) ?_
            refine AllReadyH.cons rfl (fun K hK => ?_) AllReadyH.nil
            go_simp
            have HS3 : Hid (CgSt w B LB base s A' v l (w2.alloc (.cells #[.string x, .string y] 46))) := HS2.out.up ((Below.refl _ _).alloc (Nat.le_refl _) _)
            have k3 := (HS3.out.2.1.boxC HK.out i1 d1 d2).cell
            have kL3 := HS3.out.2.2.2.1.cell
            refine hK.out _ _ k3 (fun hHeld => ?_)
            clear hK K
            try simp only [Act.put, List.setIfInBounds_toArray, List.set_cons_zero, List.set_cons_succ]
            refine wpAnyH_ready (rs := [4]) (by kernel_rfl) (by simp) ?_
            refine AllReadyH.cons rfl (fun K hK => ?_) AllReadyH.nil
            refine step_append_lies _ (by rfl) _ _ _ (by rfl) base 46 i0 (.agg #[.string ⟨#[]⟩, .string ⟨#[]⟩]) 2 32 Try.underlying24 hi0 hz0 hz1 hz2 rfl (by decide) v l.length (chCells l) (by rfl) (show World.ownsRow _ _ _ _ _ _ _ from HS3.out.2.2.2.2) ⟨w2.heap.size, 0, none⟩ 1 1 [.string x, .string y] (by rfl) rfl (World.news_of_block (heap_alloc_new _ _)) hone (by decide) hm63 hlen HS3.out.2.2.1 _ rfl ?_
            intro g cap2 w4 hown4 hgrow hat hlt4
            have HS5 : Hid (CgSt w B LB base s A' (.slice (some ⟨g, 0, none⟩) (l.length + 1) cap2) (l ++ [(x, y)]) (w4.setCell ⟨LB, 0, none⟩ (.slice (some ⟨g, 0, none⟩) (l.length + 1) cap2))) := HN.out g cap2 _ w4 HS3.out hown4 hgrow
            have f4 : ∀ k, k < base → w4.heap[k]? = (w2.alloc (.cells #[.string x, .string y] 46)).heap[k]? := fun k hk => hgrow.block k (by have := HS3.out.2.2.1; omega) (HS3.out.2.2.2.2.low hk)
            have b4 : Boxed w4 LB 24 v := (f4 LB i2).trans HS3.out.2.2.2.1
            have k4 : w4.cell? ⟨IB, 0, none⟩ = some (.pointer (some ⟨B, 0, none⟩)) := (World.cell?_of_block (a := ⟨IB, 0, none⟩) (f4 IB i1)).trans k3
            have kL4 := b4.cell
            have zL4 := b4.frozen
            simp only [List.getElem_toArray, List.getElem_cons_succ, List.getElem_cons_zero, Act.put, List.setIfInBounds_toArray, List.set_cons_zero, List.set_cons_succ]
            refine hK.out _ _ k4 (fun hHeld => ?_)
            clear hK K b4 f4 hgrow hown4 hat
            refine wpAnyH_ready (rs := [5]) (by kernel_rfl) (by simp) ?_
            refine AllReadyH.cons rfl (fun K hK => ?_) AllReadyH.nil
            go_simp
            have k5 := (HS5.out.2.1.boxC HK.out i1 d1 d2).cell
            refine hK.out _ _ k5 (fun hHeld => ?_)
            clear hK K hHeld
            refine wpAnyH_done (by kernel_rfl) ?_ _
            have HME := HM.out _ HS5.out.1
            have HMH : Hid _ := HME
            clear HM HME HN HS3 HS2 HCK HS1 k1 k2 k3 k4 k5 kL kL2 kL3 kL4 zL4 hone hm63 hlen
            go_wp2_with fail
            go_roundw
            case rel => exact ⟨A', l ++ [(x, y)], hA2, by rw [List.length_append]; exact hA4, HGN.out, _, HS5.out⟩
            case measure => exact HMH.out
          · go_simp
            have HS3 : Hid (CgSt w B LB base s A' v l (w2.alloc (.cells #[.string x, .string y] 46))) := HS2.out.up ((Below.refl _ _).alloc (Nat.le_refl _) _)
            have k3 := (HS3.out.2.1.boxC HK.out i1 d1 d2).cell
            have kL3 := HS3.out.2.2.2.1.cell
            refine hK.out _ _ k3 (fun hHeld => ?_)
            clear hK K
            try simp only [Act.put, List.setIfInBounds_toArray, List.set_cons_zero, List.set_cons_succ]
            refine wpAnyH_ready (rs := [0]) (by kernel_rfl) (by simp) ?_
            refine AllReadyH.cons rfl (fun K hK => ?_) AllReadyH.nil
            go_simp
            refine hK.out _ _ k3 (fun hHeld => ?_)
            clear hK K
            try simp only [Act.put, List.setIfInBounds_toArray, List.set_cons_zero, List.set_cons_succ]
            refine wpAnyH_ready (rs := [4]) (by kernel_rfl) (by simp) ?_
            refine AllReadyH.cons rfl (fun K hK => ?_) AllReadyH.nil
            refine step_append_lies _ (by rfl) _ _ _ (by rfl) base 46 i0 (.agg #[.string ⟨#[]⟩, .string ⟨#[]⟩]) 2 32 Try.underlying24 hi0 hz0 hz1 hz2 rfl (by decide) v l.length (chCells l) (by rfl) (show World.ownsRow _ _ _ _ _ _ _ from HS3.out.2.2.2.2) ⟨w2.heap.size, 0, none⟩ 1 1 [.string x, .string y] (by rfl) rfl (World.news_of_block (heap_alloc_new _ _)) hone (by decide) hm63 hlen HS3.out.2.2.1 _ rfl ?_
            intro g cap2 w4 hown4 hgrow hat hlt4
            have HS5 : Hid (CgSt w B LB base s A' (.slice (some ⟨g, 0, none⟩) (l.length + 1) cap2) (l ++ [(x, y)]) (w4.setCell ⟨LB, 0, none⟩ (.slice (some ⟨g, 0, none⟩) (l.length + 1) cap2))) := HN.out g cap2 _ w4 HS3.out hown4 hgrow
            have f4 : ∀ k, k < base → w4.heap[k]? = (w2.alloc (.cells #[.string x, .string y] 46)).heap[k]? := fun k hk => hgrow.block k (by have := HS3.out.2.2.1; omega) (HS3.out.2.2.2.2.low hk)
            have b4 : Boxed w4 LB 24 v := (f4 LB i2).trans HS3.out.2.2.2.1
            have k4 : w4.cell? ⟨IB, 0, none⟩ = some (.pointer (some ⟨B, 0, none⟩)) := (World.cell?_of_block (a := ⟨IB, 0, none⟩) (f4 IB i1)).trans k3
            have kL4 := b4.cell
            have zL4 := b4.frozen
            simp only [List.getElem_toArray, List.getElem_cons_succ, List.getElem_cons_zero, Act.put, List.setIfInBounds_toArray, List.set_cons_zero, List.set_cons_succ]
            refine hK.out _ _ k4 (fun hHeld => ?_)
            clear hK K b4 f4 hgrow hown4 hat
            refine wpAnyH_ready (rs := [5]) (by kernel_rfl) (by simp) ?_
            refine AllReadyH.cons rfl (fun K hK => ?_) AllReadyH.nil
            go_simp
            have k5 := (HS5.out.2.1.boxC HK.out i1 d1 d2).cell
            refine hK.out _ _ k5 (fun hHeld => ?_)
            clear hK K hHeld
            refine wpAnyH_done (by kernel_rfl) ?_ _
            have HME := HM.out _ HS5.out.1
            have HMH : Hid _ := HME
            clear HM HME HN HS3 HS2 HCK HS1 k1 k2 k3 k4 k5 kL kL2 kL3 kL4 zL4 hone hm63 hlen
            go_wp2_with fail
            go_roundw
            case rel => exact ⟨A', l ++ [(x, y)], hA2, by rw [List.length_append]; exact hA4, HGN.out, _, HS5.out⟩
            case measure => exact HMH.out
      · have HCK : Hid (Calls Try.prog 22 #[.pointer (some ⟨B, 0, none⟩)] w1.drew fun e w' => ∃ c, e = fault c ∧ CwEnd w B LB base s (fault c) w') := by
          refine (chunk_any B A s w1.drew HS1.out.1 hs hA).mono ?_
          rintro e w' ⟨ho, (⟨h, _⟩ | ⟨_, c, hc, rfl⟩)⟩
          · exact absurd h hok
          · exact ⟨c, rfl, HS1.out.drew.2.1.trans (ho.off LB base HS1.out.2.2.1), .inr ⟨c, rfl, hc, by rw [HG.out, Cg.get_no hlt hok]⟩⟩
        clear HG hok HMS
        go_wp2_with fail
        refine wp_region_held_drew (S := fun w' => w'.cell? ⟨IB, 0, none⟩ = some (.pointer (some ⟨B, 0, none⟩)) ∧ w'.cell? ⟨LB, 0, none⟩ = some v) (by kernel_rfl) ⟨k1, kL⟩ (fun hHeld => ?_)
        refine wpAnyH_take (i := 0) (v := v) rfl (by kernel_rfl) (by kernel_rfl) (by kernel_rfl) (fun _ _ _ h => h) (Or.inl ⟨by rfl, ?_⟩) hHeld ?_
        · rintro w' ⟨s1, s2⟩
          go_simp
        try simp only [Act.put, List.setIfInBounds_toArray]
        refine wpAnyH_take (i := 1) (v := .pointer (some ⟨B, 0, none⟩)) rfl (by kernel_rfl) (by kernel_rfl) (by kernel_rfl) (fun _ _ _ h => h) (Or.inl ⟨by rfl, ?_⟩) hHeld ?_
        · rintro w' ⟨s1, s2⟩
          go_simp
        try simp only [Act.put]
        refine wpAnyH_ready (rs := [2]) (by kernel_rfl) (by simp) ?_
        refine AllReadyH.cons rfl (fun K hK => ?_) AllReadyH.nil
        go_simp
        refine HCK.out.mono ?_
        rintro e w2 ⟨c, rfl, h2⟩
        have HF : Hid (CwEnd w B LB base s (fault c) w2) := h2
        clear h2 HCK HS1 k1 kL
        unfold fault
        go_wp2_with fail
        exact ⟨rfl, HF.out⟩
    · obtain rfl : A = s.size := by omega
      rw [Nat.sub_self] at HLF
      have HF : Hid (∀ q, CwEnd w B LB base s (.returned (.tuple #[])) (wr.drewN q)) := fun q => by
        have h := HST.out.drewN q
        exact ⟨h.2.1, .inl ⟨rfl, l, by rw [HG.out, Cg.get_end hlt], v, h.2.2.2⟩⟩
      clear HST HG
      go_wp2_with fail
      refine HLF.out.mono ?_
      rintro e w1 ⟨rfl, q, hq⟩
      have HF1 : Hid (CwEnd w B LB base s (.returned (.tuple #[])) w1) := by rw [hq]; exact HF.out q
      clear hq HF c1 HLF
      go_wp2_with fail
      go_end0
      exact HF1.out
end Go.Proofs.Ytgbcjkpmiceddaa
