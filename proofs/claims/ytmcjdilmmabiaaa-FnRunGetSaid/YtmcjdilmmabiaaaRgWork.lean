/- The work of RunGet: packet behind packet. -/
import Derived.Test.YtmcjdilmmabiaaaRgPacket
import Derived.Test.YtmcjdilmmabiaaaAppInts
import Derived.Deep.RegionHeld
import Derived.RangeFuncBox
namespace Go.Proofs.Ytmcjdilmmabiaaa
open Go.RowKit

/-- nothing that was there has turned but two blocks -/
structure Only2 (B L : Nat) (w w' : World) : Prop where
  os : w'.os = w.os
  tape : w'.tape = w.tape
  output : w'.output = w.output
  size : w.heap.size ≤ w'.heap.size
  rest : ∀ k, k < w.heap.size → k ≠ B → k ≠ L → w'.heap[k]? = w.heap[k]?
theorem Only2.refl (B L : Nat) (w : World) : Only2 B L w w := ⟨rfl, rfl, rfl, Nat.le_refl _, fun _ _ _ _ => rfl⟩
theorem Only2.trans {B L : Nat} {a b c : World} (h : Only2 B L a b) (g : Only2 B L b c) : Only2 B L a c :=
  ⟨g.os.trans h.os, g.tape.trans h.tape, g.output.trans h.output, Nat.le_trans h.size g.size, fun k hk h1 h2 => (g.rest k (Nat.lt_of_lt_of_le hk h.size) h1 h2).trans (h.rest k hk h1 h2)⟩
theorem Only.two {B : Nat} {w w' : World} (h : Only B w w') (L : Nat) : Only2 B L w w' := ⟨h.below.os, h.below.tape, h.below.output, h.below.size, fun k hk h1 _ => h.rest k hk h1⟩
theorem Only2.grown {B L : Nat} {w a b : World} {row : Option Nat} (h : Only2 B L w a) (hg : a.grownBy b row) (hr : ∀ k, row = some k → w.heap.size ≤ k) : Only2 B L w b :=
  ⟨hg.os.trans h.os, hg.tape.trans h.tape, hg.output.trans h.output, Nat.le_trans h.size hg.size, fun k hk h1 h2 => (hg.block k (Nat.lt_of_lt_of_le hk h.size) (fun e => by have := hr k e.symm; omega)).trans (h.rest k hk h1 h2)⟩
theorem Only2.set {B L : Nat} {w a : World} (h : Only2 B L w a) (v : Value) : Only2 B L w (a.setCell ⟨L, 0, none⟩ v) :=
  ⟨h.os, h.tape, h.output, by simpa using h.size, fun k hk h1 h2 => (Below.heap_setCell a ⟨L, 0, none⟩ v k h2).trans (h.rest k hk h1 h2)⟩
theorem Only2.below {B L n : Nat} {w w' : World} (h : Only2 B L w w') (h1 : n ≤ B) (h2 : n ≤ L) (h3 : n ≤ w.heap.size) : Below n w w' := ⟨h.os, h.tape, h.output, h.size, fun k hk => h.rest k (by omega) (by omega) (by omega)⟩
theorem Only2.box {B L : Nat} {w w' : World} (h : Only2 B L w w') {k : Nat} {T : TypeId} {v : Value} (hb : Boxed w k T v) (h1 : k ≠ B) (h2 : k ≠ L) : Boxed w' k T v := (h.rest k (lt_heap hb) h1 h2).trans hb
theorem lt_of_box {w : World} {k : Nat} {T : TypeId} {v : Value} (hb : Boxed w k T v) : k < w.heap.size := lt_heap hb
theorem lt_of_c {w : World} {k o : Nat} {v : Value} (h : w.cell? ⟨k, o, none⟩ = some v) : k < w.heap.size := World.block_lt_of_cell? w _ h
def sliceLen : Option Value → Nat
  | some (.slice _ n _) => n
  | _ => 0
theorem OwnI.through {w w' : World} {B C n : Nat} {v : Value} {l : List Int} (h : OwnI w B v n l) (ho : Only C w w') (hC : C < B) : OwnI w' B v n l := by
  refine World.ownsRow.kept (show World.ownsRow _ _ _ _ _ _ _ from h) (row := some C) ⟨ho.below.os, ho.below.tape, ho.below.output, ho.below.size, fun k hk hne => ho.rest k hk (fun e => hne (by rw [e]))⟩ (.inr (fun e => ?_))
  have := (World.ownsRow.lt (show World.ownsRow _ _ _ _ _ _ _ from h) C (by first | exact e | exact e.symm)).1
  omega

/-- how the work ends -/
def WkOut (w : World) (B LB : Nat) (s : ByteArray) (S A0 N : Nat) (e : Ending) (w' : World) : Prop :=
  Only2 B LB w w' ∧ (((∃ v, e = .returned v) ∧ ∃ l E v, Rg.get s S A0 N = some (l, E) ∧ Boxed w' LB 30 v ∧ OwnI w' w.heap.size v N l ∧ Br w' B s E) ∨ ∃ c, e = fault c ∧ c ≠ 0 ∧ Rg.get s S A0 N = none)

set_option linter.unusedSimpArgs false in
set_option maxHeartbeats 4000000 in
set_option maxRecDepth 20000 in
theorem runWork_any (LB CB IB SB B A0 S N : Nat) (s : ByteArray) (w : World) (hLB : Boxed w LB 30 (.slice none 0 0)) (hCB : Boxed w CB 3 (.int .i64 (N : Int))) (hIB : Boxed w IB 52 (.pointer (some ⟨B, 0, none⟩))) (hSB : Boxed w SB 3 (.int .i64 (S : Int))) (hBr : Br w B s A0) (hs : s.size ≤ 9000) (hA : A0 ≤ s.size) (hS1 : 1 ≤ S) (hS : S ≤ 4) (hN : N ≤ 1000)
    (d1 : CB ≠ LB) (d2 : IB ≠ LB) (d3 : SB ≠ LB) (d4 : B ≠ LB) (d5 : CB ≠ B) (d6 : IB ≠ B) (d7 : SB ≠ B) :
    Calls Try.prog 41 #[.pointer (some ⟨LB, 0, none⟩), .pointer (some ⟨CB, 0, none⟩), .pointer (some ⟨IB, 0, none⟩), .pointer (some ⟨SB, 0, none⟩)] w (WkOut w B LB s S A0 N) := by
  have hLBw := lt_of_box hLB
  have hCBw := lt_of_box hCB
  have hIBw := lt_of_box hIB
  have hSBw := lt_of_box hSB
  have hBw := hBr.lt
  have HI : Hid (Boxed w LB 30 (.slice none 0 0) ∧ Br w B s A0) := ⟨hLB, hBr⟩
  have HK : Hid (Boxed w CB 3 (.int .i64 (N : Int)) ∧ Boxed w IB 52 (.pointer (some ⟨B, 0, none⟩)) ∧ Boxed w SB 3 (.int .i64 (S : Int))) := ⟨hCB, hIB, hSB⟩
  clear hLB hCB hIB hSB hBr
  go_enter Try.func41, Try.ntmps41
  go_wp2_with fail
  go_loopw [4] (fun _ wr => ∃ (l : List Int) (n A : Nat) (v : Value), Rg.Reach s S A0 N l A n ∧ Boxed wr LB 30 v ∧ OwnI wr w.heap.size v l.length l ∧ Br wr B s A ∧ A ≤ s.size ∧ Only2 B LB w wr) (fun _ wr => N - sliceLen (wr.cell? ⟨LB, 0, none⟩))
  case atStart => exact ⟨[], N, A0, _, Rg.reach_start s S A0 N, HI.out.1, World.ownsRow_nil _ _ _ _, HI.out.2, hA, Only2.refl _ _ _⟩
  case round =>
    obtain ⟨l, n, A, v, hR, hV, hOw, hBr, hAs, hO⟩ := hrel
    obtain ⟨ao, cap, rfl, _⟩ := hOw.owns
    have hl : l.length + n = N := hR.1
    have HR : Hid (Rg.Reach s S A0 N l A n) := hR
    have HO : Hid (Only2 B LB w wr) := hO
    have HBr : Hid (Br wr B s A) := hBr
    have hvold := hV.cell
    have cc := (hO.box HK.out.1 d5 d1).cell
    have ci := (hO.box HK.out.2.1 d6 d2).cell
    have cs := (hO.box HK.out.2.2 d7 d3).cell
    obtain ⟨n0, hn0'⟩ : ∃ n0, n0 = l.length := ⟨_, rfl⟩
    rw [← hn0'] at hV hOw hvold hl
    have HV : Hid (Boxed wr LB 30 (.slice ao n0 cap)) := hV
    have HOw : Hid (OwnI wr w.heap.size (.slice ao n0 cap) n0 l) := hOw
    have HSr : Hid (wr.cell? ⟨IB, 0, none⟩ = some (.pointer (some ⟨B, 0, none⟩)) ∧ wr.cell? ⟨SB, 0, none⟩ = some (.int .i64 (S : Int)) ∧ wr.cell? ⟨CB, 0, none⟩ = some (.int .i64 (N : Int))) := ⟨ci, cs, cc⟩
    clear hR hV hOw hBr hO HI hn0'
    by_cases hlt : n0 < N
    · have hn0 : 0 < n := by omega
      have hli : (n0 : Int) < (N : Int) := by omega
      have esub : (N : Int) - (n0 : Int) = (n : Int) := by omega
      have fsub := wrap_i64_nat n (by omega)
      go_wp2_with fail
      clear ci cs cc
      refine wp_region_held_drew (S := fun w' => w'.cell? ⟨IB, 0, none⟩ = some (.pointer (some ⟨B, 0, none⟩)) ∧ w'.cell? ⟨SB, 0, none⟩ = some (.int .i64 (S : Int)) ∧ w'.cell? ⟨CB, 0, none⟩ = some (.int .i64 (N : Int))) (by kernel_rfl) HSr.out (fun _ => ?_)
      have HS_X0 : Hid (wr.drew.cell? ⟨IB, 0, none⟩ = some (.pointer (some ⟨B, 0, none⟩)) ∧ wr.drew.cell? ⟨SB, 0, none⟩ = some (.int .i64 (S : Int)) ∧ wr.drew.cell? ⟨CB, 0, none⟩ = some (.int .i64 (N : Int))) := HSr.out
      have HV_X0 : Hid (Boxed wr.drew LB 30 (.slice ao n0 cap) ∧ Br wr.drew B s A) := ⟨HV.out, HBr.out⟩
      have HP : Hid (∀ X : World, Br X B s A → Calls Try.prog 42 #[.pointer (some ⟨B, 0, none⟩), .int .i64 (S : Int), .int .i64 (n : Int)] X (PkOut X B s S A n)) := fun X h => packet_any B A S n s X h hs hAs hS1 hS
      refine wpAnyH_take (i := 1) (v := .pointer (some ⟨B, 0, none⟩)) rfl (by kernel_rfl) (by kernel_rfl) (by kernel_rfl) (fun _ _ _ h => h) (Or.inl ⟨by rfl, ?_⟩) HSr.out ?_
      · rintro w' ⟨s1, s2, s3⟩
        go_simp
        try omega
      try simp only [Act.put, List.setIfInBounds_toArray, List.set_cons_zero, List.set_cons_succ]
      refine wpAnyH_take (i := 2) (v := .int .i64 (S : Int)) rfl (by kernel_rfl) (by kernel_rfl) (by kernel_rfl) (fun _ _ _ h => h) (Or.inl ⟨by rfl, ?_⟩) HSr.out ?_
      · rintro w' ⟨s1, s2, s3⟩
        go_simp
        try omega
      try simp only [Act.put, List.setIfInBounds_toArray, List.set_cons_zero, List.set_cons_succ]
      refine wpAnyH_take (i := 3) (v := .int .i64 (N : Int)) rfl (by kernel_rfl) (by kernel_rfl) (by kernel_rfl) (fun _ _ _ h => h) (Or.inl ⟨by rfl, ?_⟩) HSr.out ?_
      · rintro w' ⟨s1, s2, s3⟩
        go_simp
        try omega
      try simp only [Act.put, List.setIfInBounds_toArray, List.set_cons_zero, List.set_cons_succ]
      refine wpAnyH_ready (rs := [0, 4]) (by kernel_rfl) (by simp) ?_
      refine AllReadyH.cons rfl (fun K hK => ?_) (AllReadyH.cons rfl (fun K hK => ?_) AllReadyH.nil)
      · have hvc : wr.drew.cell? ⟨LB, 0, none⟩ = some (.slice ao n0 cap) := HV_X0.out.1.cell
        go_simp
        clear hvc
        refine hK.out _ _ HS_X0.out (fun _ => ?_)
        clear hK K
        try simp only [Act.put, List.setIfInBounds_toArray, List.set_cons_zero, List.set_cons_succ]
        refine wpAnyH_ready (rs := [4]) (by kernel_rfl) (by simp) ?_
        refine AllReadyH.cons rfl (fun K hK => ?_) AllReadyH.nil
        have hvc : wr.drew.cell? ⟨LB, 0, none⟩ = some (.slice ao n0 cap) := HV_X0.out.1.cell
        go_simp
        clear hvc
        refine hK.out _ _ HS_X0.out (fun _ => ?_)
        clear hK K
        try simp only [Act.put, List.setIfInBounds_toArray, List.set_cons_zero, List.set_cons_succ]
        refine wpAnyH_take (i := 5) (v := .int .i64 (n0 : Int)) rfl (by kernel_rfl) (by kernel_rfl) (by kernel_rfl) (fun _ _ _ h => h) (Or.inl ⟨by rfl, ?_⟩) HS_X0.out ?_
        · rintro w' ⟨s1, s2, s3⟩
          go_simp
          try omega
        try simp only [Act.put, List.setIfInBounds_toArray, List.set_cons_zero, List.set_cons_succ]
        refine wpAnyH_take (i := 6) (v := .int .i64 (n : Int)) rfl (by kernel_rfl) (by kernel_rfl) (by kernel_rfl) (fun _ _ _ h => h) (Or.inl ⟨by rfl, ?_⟩) HS_X0.out ?_
        · rintro w' ⟨s1, s2, s3⟩
          go_simp
          try omega
        try simp only [Act.put, List.setIfInBounds_toArray, List.set_cons_zero, List.set_cons_succ]
        refine wpAnyH_ready (rs := [7]) (by kernel_rfl) (by simp) ?_
        refine AllReadyH.cons rfl (fun K hK => ?_) AllReadyH.nil
        go_simp
        refine (HP.out wr.drew HV_X0.out.2).mono ?_
        rintro e w6 (⟨ht, ⟨g, c, rfl, hxs⟩, hb6, ho6⟩ | ⟨hnt, ⟨c, rfl, hc0⟩, ho6⟩)
        · have HV_w6 : Hid (Boxed w6 LB 30 (.slice ao n0 cap) ∧ True) := ⟨(ho6.rest LB (lt_of_box HV_X0.out.1) (Ne.symm d4)).trans HV_X0.out.1, trivial⟩
          have HS_w6 : Hid (w6.cell? ⟨IB, 0, none⟩ = some (.pointer (some ⟨B, 0, none⟩)) ∧ w6.cell? ⟨SB, 0, none⟩ = some (.int .i64 (S : Int)) ∧ w6.cell? ⟨CB, 0, none⟩ = some (.int .i64 (N : Int))) := ⟨(ho6.cell IB 0 (lt_of_c HS_X0.out.1) d6).trans HS_X0.out.1, (ho6.cell SB 0 (lt_of_c HS_X0.out.2.1) d7).trans HS_X0.out.2.1, (ho6.cell CB 0 (lt_of_c HS_X0.out.2.2) d5).trans HS_X0.out.2.2⟩
          have HW6 : Hid (Rg.There s S A n ∧ Ints w6 (some ⟨g, 0, none⟩) (Rg.nums s S A) ∧ Br w6 B s (A + 1 + Rg.need S (byteAt s A)) ∧ Only B wr w6) := ⟨ht, hxs.ints, hb6, (Only.refl B wr).drewN 1 |>.trans ho6⟩
          clear ht hxs hb6 ho6
          go_wp2_with fail
          refine hK.out _ _ HS_w6.out (fun _ => ?_)
          clear hK K
          try simp only [Act.put, List.setIfInBounds_toArray, List.set_cons_zero, List.set_cons_succ]
          refine wpAnyH_ready (rs := [8]) (by kernel_rfl) (by simp) ?_
          refine AllReadyH.cons rfl (fun K hK => ?_) AllReadyH.nil
          have hown : OwnI w6 w.heap.size (.slice ao n0 cap) n0 l := HOw.out.through HW6.out.2.2.2 hBw
          refine step_append_ints (by rfl) _ _ (by rfl) w.heap.size (.slice ao n0 cap) n0 l (by rfl) hown (some ⟨g, 0, none⟩) (Rg.cnt (byteAt s A)) c (Rg.nums s S A) (by rfl) HW6.out.2.1 (Rg.nums_len s S A) (by have := Rg.cnt_le (byteAt_lt s A); omega) (Nat.le_trans HO.out.size (HW6.out.2.2.2.below.size)) ?_
          intro y cy w7 hO7 hG7
          have hrow : ∀ k, k < w.heap.size → some k ≠ Value.ownBlock (.slice ao n0 cap) := fun k hk e => by have := (World.ownsRow.lt (show World.ownsRow _ _ _ _ _ _ _ from hown) k e.symm).1; omega
          have hsz7 : w.heap.size ≤ w6.heap.size := Nat.le_trans HO.out.size HW6.out.2.2.2.below.size
          have hb7 : Boxed w7 LB 30 (.slice ao n0 cap) := (hG7.block LB (by omega) (hrow LB hLBw)).trans HV_w6.out.1
          have HS_w7 : Hid (w7.cell? ⟨IB, 0, none⟩ = some (.pointer (some ⟨B, 0, none⟩)) ∧ w7.cell? ⟨SB, 0, none⟩ = some (.int .i64 (S : Int)) ∧ w7.cell? ⟨CB, 0, none⟩ = some (.int .i64 (N : Int))) := by
            obtain ⟨q1, q2, q3⟩ := HS_w6.out
            exact ⟨(World.cell?_of_block (w := w6) (a := ⟨IB, 0, none⟩) (hG7.block IB (by omega) (hrow IB hIBw))).trans q1, (World.cell?_of_block (w := w6) (a := ⟨SB, 0, none⟩) (hG7.block SB (by omega) (hrow SB hSBw))).trans q2, (World.cell?_of_block (w := w6) (a := ⟨CB, 0, none⟩) (hG7.block CB (by omega) (hrow CB hCBw))).trans q3⟩
          have HBr7 : Hid (Br w7 B s (A + 1 + Rg.need S (byteAt s A))) := (hG7.block B (by omega) (hrow B hBw)).trans HW6.out.2.2.1
          have HO7 : Hid (Only2 B LB w w7) := (HO.out.trans (HW6.out.2.2.2.two LB)).grown hG7 (fun k e => (World.ownsRow.lt (show World.ownsRow _ _ _ _ _ _ _ from hown) k e).1)
          have HOw7 : Hid (OwnI w7 w.heap.size (.slice y (n0 + Rg.cnt (byteAt s A)) cy) (n0 + Rg.cnt (byteAt s A)) (l ++ Rg.nums s S A)) := hO7
          have HT : Hid (Rg.Reach s S A0 N (l ++ Rg.nums s S A) (A + 1 + Rg.need S (byteAt s A)) (n - Rg.cnt (byteAt s A)) ∧ A + 1 + Rg.need S (byteAt s A) ≤ s.size) := ⟨HR.out.step hn0 HW6.out.1, HW6.out.1.2.2⟩
          have hcp := Rg.cnt_pos (byteAt s A)
          generalize Rg.cnt (byteAt s A) = m at *
          generalize Rg.need S (byteAt s A) = nd at *
          generalize Rg.nums s S A = xs at *
          clear hown hO7 hG7 hrow HW6 HV_w6 HOw
          refine hK.out _ _ HS_w7.out (fun _ => ?_)
          clear hK K
          try simp only [Act.put, List.setIfInBounds_toArray, List.set_cons_zero, List.set_cons_succ]
          refine wpAnyH_ready (rs := [9]) (by kernel_rfl) (by simp) ?_
          refine AllReadyH.cons rfl (fun K hK => ?_) AllReadyH.nil
          have hbc := hb7.cell
          have hbf := hb7.frozen
          go_simp
          refine hK.out _ _ ⟨(World.cell?_setCell_other _ _ _ _ (fun e => by have := congrArg Addr.block e; exact d2 this.symm)).trans HS_w7.out.1, (World.cell?_setCell_other _ _ _ _ (fun e => by have := congrArg Addr.block e; exact d3 this.symm)).trans HS_w7.out.2.1, (World.cell?_setCell_other _ _ _ _ (fun e => by have := congrArg Addr.block e; exact d1 this.symm)).trans HS_w7.out.2.2⟩ (fun _ => ?_)
          clear hK K
          try simp only [Act.put, List.setIfInBounds_toArray, List.set_cons_zero, List.set_cons_succ]
          refine wpAnyH_done (by kernel_rfl) ?_ _
          have HF : Hid (Boxed (w7.setCell ⟨LB, 0, none⟩ (.slice y (n0 + m) cy)) LB 30 (.slice y (n0 + m) cy) ∧ OwnI (w7.setCell ⟨LB, 0, none⟩ (.slice y (n0 + m) cy)) w.heap.size (.slice y (n0 + m) cy) (n0 + m) (l ++ xs) ∧ Br (w7.setCell ⟨LB, 0, none⟩ (.slice y (n0 + m) cy)) B s (A + 1 + nd) ∧ Only2 B LB w (w7.setCell ⟨LB, 0, none⟩ (.slice y (n0 + m) cy))) :=
            ⟨hb7.set _, ownsRow_setCell_below (show World.ownsRow _ _ _ _ _ _ _ from HOw7.out) (a := ⟨LB, 0, none⟩) hLBw _, (Below.heap_setCell w7 ⟨LB, 0, none⟩ _ B d4).trans HBr7.out, HO7.out.set _⟩
          clear HS_w7 hb7 HBr7 HO7 HOw7 hbc hbf
          go_wp2_with fail
          go_roundw
          case rel =>
            refine ⟨l ++ xs, n - m, A + 1 + nd, _, HT.out.1, HF.out.1, ?_, HF.out.2.2.1, HT.out.2, HF.out.2.2.2⟩
            have := HF.out.2.1.len
            rw [this]; exact HF.out.2.1
          case measure =>
            have hnew := HF.out.1.cell
            rw [hnew, hvold]
            simp only [sliceLen]
            omega
        · have HFN : Hid (Only2 B LB w w6 ∧ Rg.get s S A0 N = none) := ⟨HO.out.trans (((Only.refl B wr).drewN 1 |>.trans ho6).two LB), HR.out.stuck hn0 hnt⟩
          clear ho6 hnt
          unfold fault
          go_wp2_with fail
          exact ⟨rfl, HFN.out.1, .inr ⟨c, rfl, hc0, HFN.out.2⟩⟩
      · have hvc : wr.drew.cell? ⟨LB, 0, none⟩ = some (.slice ao n0 cap) := HV_X0.out.1.cell
        go_simp
        clear hvc
        refine hK.out _ _ HS_X0.out (fun _ => ?_)
        clear hK K
        try simp only [Act.put, List.setIfInBounds_toArray, List.set_cons_zero, List.set_cons_succ]
        refine wpAnyH_take (i := 5) (v := .int .i64 (n0 : Int)) rfl (by kernel_rfl) (by kernel_rfl) (by kernel_rfl) (fun _ _ _ h => h) (Or.inl ⟨by rfl, ?_⟩) HS_X0.out ?_
        · rintro w' ⟨s1, s2, s3⟩
          go_simp
          try omega
        try simp only [Act.put, List.setIfInBounds_toArray, List.set_cons_zero, List.set_cons_succ]
        refine wpAnyH_take (i := 6) (v := .int .i64 (n : Int)) rfl (by kernel_rfl) (by kernel_rfl) (by kernel_rfl) (fun _ _ _ h => h) (Or.inl ⟨by rfl, ?_⟩) HS_X0.out ?_
        · rintro w' ⟨s1, s2, s3⟩
          go_simp
          try omega
        try simp only [Act.put, List.setIfInBounds_toArray, List.set_cons_zero, List.set_cons_succ]
        refine wpAnyH_ready (rs := [0, 7]) (by kernel_rfl) (by simp) ?_
        refine AllReadyH.cons rfl (fun K hK => ?_) (AllReadyH.cons rfl (fun K hK => ?_) AllReadyH.nil)
        · have hvc : wr.drew.cell? ⟨LB, 0, none⟩ = some (.slice ao n0 cap) := HV_X0.out.1.cell
          go_simp
          clear hvc
          refine hK.out _ _ HS_X0.out (fun _ => ?_)
          clear hK K
          try simp only [Act.put, List.setIfInBounds_toArray, List.set_cons_zero, List.set_cons_succ]
          refine wpAnyH_ready (rs := [7]) (by kernel_rfl) (by simp) ?_
          refine AllReadyH.cons rfl (fun K hK => ?_) AllReadyH.nil
          go_simp
          refine (HP.out wr.drew HV_X0.out.2).mono ?_
          rintro e w6 (⟨ht, ⟨g, c, rfl, hxs⟩, hb6, ho6⟩ | ⟨hnt, ⟨c, rfl, hc0⟩, ho6⟩)
          · have HV_w6 : Hid (Boxed w6 LB 30 (.slice ao n0 cap) ∧ True) := ⟨(ho6.rest LB (lt_of_box HV_X0.out.1) (Ne.symm d4)).trans HV_X0.out.1, trivial⟩
            have HS_w6 : Hid (w6.cell? ⟨IB, 0, none⟩ = some (.pointer (some ⟨B, 0, none⟩)) ∧ w6.cell? ⟨SB, 0, none⟩ = some (.int .i64 (S : Int)) ∧ w6.cell? ⟨CB, 0, none⟩ = some (.int .i64 (N : Int))) := ⟨(ho6.cell IB 0 (lt_of_c HS_X0.out.1) d6).trans HS_X0.out.1, (ho6.cell SB 0 (lt_of_c HS_X0.out.2.1) d7).trans HS_X0.out.2.1, (ho6.cell CB 0 (lt_of_c HS_X0.out.2.2) d5).trans HS_X0.out.2.2⟩
            have HW6 : Hid (Rg.There s S A n ∧ Ints w6 (some ⟨g, 0, none⟩) (Rg.nums s S A) ∧ Br w6 B s (A + 1 + Rg.need S (byteAt s A)) ∧ Only B wr w6) := ⟨ht, hxs.ints, hb6, (Only.refl B wr).drewN 1 |>.trans ho6⟩
            clear ht hxs hb6 ho6
            go_wp2_with fail
            refine hK.out _ _ HS_w6.out (fun _ => ?_)
            clear hK K
            try simp only [Act.put, List.setIfInBounds_toArray, List.set_cons_zero, List.set_cons_succ]
            refine wpAnyH_ready (rs := [8]) (by kernel_rfl) (by simp) ?_
            refine AllReadyH.cons rfl (fun K hK => ?_) AllReadyH.nil
            have hown : OwnI w6 w.heap.size (.slice ao n0 cap) n0 l := HOw.out.through HW6.out.2.2.2 hBw
            refine step_append_ints (by rfl) _ _ (by rfl) w.heap.size (.slice ao n0 cap) n0 l (by rfl) hown (some ⟨g, 0, none⟩) (Rg.cnt (byteAt s A)) c (Rg.nums s S A) (by rfl) HW6.out.2.1 (Rg.nums_len s S A) (by have := Rg.cnt_le (byteAt_lt s A); omega) (Nat.le_trans HO.out.size (HW6.out.2.2.2.below.size)) ?_
            intro y cy w7 hO7 hG7
            have hrow : ∀ k, k < w.heap.size → some k ≠ Value.ownBlock (.slice ao n0 cap) := fun k hk e => by have := (World.ownsRow.lt (show World.ownsRow _ _ _ _ _ _ _ from hown) k e.symm).1; omega
            have hsz7 : w.heap.size ≤ w6.heap.size := Nat.le_trans HO.out.size HW6.out.2.2.2.below.size
            have hb7 : Boxed w7 LB 30 (.slice ao n0 cap) := (hG7.block LB (by omega) (hrow LB hLBw)).trans HV_w6.out.1
            have HS_w7 : Hid (w7.cell? ⟨IB, 0, none⟩ = some (.pointer (some ⟨B, 0, none⟩)) ∧ w7.cell? ⟨SB, 0, none⟩ = some (.int .i64 (S : Int)) ∧ w7.cell? ⟨CB, 0, none⟩ = some (.int .i64 (N : Int))) := by
              obtain ⟨q1, q2, q3⟩ := HS_w6.out
              exact ⟨(World.cell?_of_block (w := w6) (a := ⟨IB, 0, none⟩) (hG7.block IB (by omega) (hrow IB hIBw))).trans q1, (World.cell?_of_block (w := w6) (a := ⟨SB, 0, none⟩) (hG7.block SB (by omega) (hrow SB hSBw))).trans q2, (World.cell?_of_block (w := w6) (a := ⟨CB, 0, none⟩) (hG7.block CB (by omega) (hrow CB hCBw))).trans q3⟩
            have HBr7 : Hid (Br w7 B s (A + 1 + Rg.need S (byteAt s A))) := (hG7.block B (by omega) (hrow B hBw)).trans HW6.out.2.2.1
            have HO7 : Hid (Only2 B LB w w7) := (HO.out.trans (HW6.out.2.2.2.two LB)).grown hG7 (fun k e => (World.ownsRow.lt (show World.ownsRow _ _ _ _ _ _ _ from hown) k e).1)
            have HOw7 : Hid (OwnI w7 w.heap.size (.slice y (n0 + Rg.cnt (byteAt s A)) cy) (n0 + Rg.cnt (byteAt s A)) (l ++ Rg.nums s S A)) := hO7
            have HT : Hid (Rg.Reach s S A0 N (l ++ Rg.nums s S A) (A + 1 + Rg.need S (byteAt s A)) (n - Rg.cnt (byteAt s A)) ∧ A + 1 + Rg.need S (byteAt s A) ≤ s.size) := ⟨HR.out.step hn0 HW6.out.1, HW6.out.1.2.2⟩
            have hcp := Rg.cnt_pos (byteAt s A)
            generalize Rg.cnt (byteAt s A) = m at *
            generalize Rg.need S (byteAt s A) = nd at *
            generalize Rg.nums s S A = xs at *
            clear hown hO7 hG7 hrow HW6 HV_w6 HOw
            refine hK.out _ _ HS_w7.out (fun _ => ?_)
            clear hK K
            try simp only [Act.put, List.setIfInBounds_toArray, List.set_cons_zero, List.set_cons_succ]
            refine wpAnyH_ready (rs := [9]) (by kernel_rfl) (by simp) ?_
            refine AllReadyH.cons rfl (fun K hK => ?_) AllReadyH.nil
            have hbc := hb7.cell
            have hbf := hb7.frozen
            go_simp
            refine hK.out _ _ ⟨(World.cell?_setCell_other _ _ _ _ (fun e => by have := congrArg Addr.block e; exact d2 this.symm)).trans HS_w7.out.1, (World.cell?_setCell_other _ _ _ _ (fun e => by have := congrArg Addr.block e; exact d3 this.symm)).trans HS_w7.out.2.1, (World.cell?_setCell_other _ _ _ _ (fun e => by have := congrArg Addr.block e; exact d1 this.symm)).trans HS_w7.out.2.2⟩ (fun _ => ?_)
            clear hK K
            try simp only [Act.put, List.setIfInBounds_toArray, List.set_cons_zero, List.set_cons_succ]
            refine wpAnyH_done (by kernel_rfl) ?_ _
            have HF : Hid (Boxed (w7.setCell ⟨LB, 0, none⟩ (.slice y (n0 + m) cy)) LB 30 (.slice y (n0 + m) cy) ∧ OwnI (w7.setCell ⟨LB, 0, none⟩ (.slice y (n0 + m) cy)) w.heap.size (.slice y (n0 + m) cy) (n0 + m) (l ++ xs) ∧ Br (w7.setCell ⟨LB, 0, none⟩ (.slice y (n0 + m) cy)) B s (A + 1 + nd) ∧ Only2 B LB w (w7.setCell ⟨LB, 0, none⟩ (.slice y (n0 + m) cy))) :=
              ⟨hb7.set _, ownsRow_setCell_below (show World.ownsRow _ _ _ _ _ _ _ from HOw7.out) (a := ⟨LB, 0, none⟩) hLBw _, (Below.heap_setCell w7 ⟨LB, 0, none⟩ _ B d4).trans HBr7.out, HO7.out.set _⟩
            clear HS_w7 hb7 HBr7 HO7 HOw7 hbc hbf
            go_wp2_with fail
            go_roundw
            case rel =>
              refine ⟨l ++ xs, n - m, A + 1 + nd, _, HT.out.1, HF.out.1, ?_, HF.out.2.2.1, HT.out.2, HF.out.2.2.2⟩
              have := HF.out.2.1.len
              rw [this]; exact HF.out.2.1
            case measure =>
              have hnew := HF.out.1.cell
              rw [hnew, hvold]
              simp only [sliceLen]
              omega
          · have HFN : Hid (Only2 B LB w w6 ∧ Rg.get s S A0 N = none) := ⟨HO.out.trans (((Only.refl B wr).drewN 1 |>.trans ho6).two LB), HR.out.stuck hn0 hnt⟩
            clear ho6 hnt
            unfold fault
            go_wp2_with fail
            exact ⟨rfl, HFN.out.1, .inr ⟨c, rfl, hc0, HFN.out.2⟩⟩
        · go_simp
          refine (HP.out wr.drew HV_X0.out.2).mono ?_
          rintro e w6 (⟨ht, ⟨g, c, rfl, hxs⟩, hb6, ho6⟩ | ⟨hnt, ⟨c, rfl, hc0⟩, ho6⟩)
          · have HV_w6 : Hid (Boxed w6 LB 30 (.slice ao n0 cap) ∧ True) := ⟨(ho6.rest LB (lt_of_box HV_X0.out.1) (Ne.symm d4)).trans HV_X0.out.1, trivial⟩
            have HS_w6 : Hid (w6.cell? ⟨IB, 0, none⟩ = some (.pointer (some ⟨B, 0, none⟩)) ∧ w6.cell? ⟨SB, 0, none⟩ = some (.int .i64 (S : Int)) ∧ w6.cell? ⟨CB, 0, none⟩ = some (.int .i64 (N : Int))) := ⟨(ho6.cell IB 0 (lt_of_c HS_X0.out.1) d6).trans HS_X0.out.1, (ho6.cell SB 0 (lt_of_c HS_X0.out.2.1) d7).trans HS_X0.out.2.1, (ho6.cell CB 0 (lt_of_c HS_X0.out.2.2) d5).trans HS_X0.out.2.2⟩
            have HW6 : Hid (Rg.There s S A n ∧ Ints w6 (some ⟨g, 0, none⟩) (Rg.nums s S A) ∧ Br w6 B s (A + 1 + Rg.need S (byteAt s A)) ∧ Only B wr w6) := ⟨ht, hxs.ints, hb6, (Only.refl B wr).drewN 1 |>.trans ho6⟩
            clear ht hxs hb6 ho6
            go_wp2_with fail
            refine hK.out _ _ HS_w6.out (fun _ => ?_)
            clear hK K
            try simp only [Act.put, List.setIfInBounds_toArray, List.set_cons_zero, List.set_cons_succ]
            refine wpAnyH_ready (rs := [0]) (by kernel_rfl) (by simp) ?_
            refine AllReadyH.cons rfl (fun K hK => ?_) AllReadyH.nil
            have hvc : w6.cell? ⟨LB, 0, none⟩ = some (.slice ao n0 cap) := HV_w6.out.1.cell
            go_simp
            clear hvc
            refine hK.out _ _ HS_w6.out (fun _ => ?_)
            clear hK K
            try simp only [Act.put, List.setIfInBounds_toArray, List.set_cons_zero, List.set_cons_succ]
            refine wpAnyH_ready (rs := [8]) (by kernel_rfl) (by simp) ?_
            refine AllReadyH.cons rfl (fun K hK => ?_) AllReadyH.nil
            have hown : OwnI w6 w.heap.size (.slice ao n0 cap) n0 l := HOw.out.through HW6.out.2.2.2 hBw
            refine step_append_ints (by rfl) _ _ (by rfl) w.heap.size (.slice ao n0 cap) n0 l (by rfl) hown (some ⟨g, 0, none⟩) (Rg.cnt (byteAt s A)) c (Rg.nums s S A) (by rfl) HW6.out.2.1 (Rg.nums_len s S A) (by have := Rg.cnt_le (byteAt_lt s A); omega) (Nat.le_trans HO.out.size (HW6.out.2.2.2.below.size)) ?_
            intro y cy w7 hO7 hG7
            have hrow : ∀ k, k < w.heap.size → some k ≠ Value.ownBlock (.slice ao n0 cap) := fun k hk e => by have := (World.ownsRow.lt (show World.ownsRow _ _ _ _ _ _ _ from hown) k e.symm).1; omega
            have hsz7 : w.heap.size ≤ w6.heap.size := Nat.le_trans HO.out.size HW6.out.2.2.2.below.size
            have hb7 : Boxed w7 LB 30 (.slice ao n0 cap) := (hG7.block LB (by omega) (hrow LB hLBw)).trans HV_w6.out.1
            have HS_w7 : Hid (w7.cell? ⟨IB, 0, none⟩ = some (.pointer (some ⟨B, 0, none⟩)) ∧ w7.cell? ⟨SB, 0, none⟩ = some (.int .i64 (S : Int)) ∧ w7.cell? ⟨CB, 0, none⟩ = some (.int .i64 (N : Int))) := by
              obtain ⟨q1, q2, q3⟩ := HS_w6.out
              exact ⟨(World.cell?_of_block (w := w6) (a := ⟨IB, 0, none⟩) (hG7.block IB (by omega) (hrow IB hIBw))).trans q1, (World.cell?_of_block (w := w6) (a := ⟨SB, 0, none⟩) (hG7.block SB (by omega) (hrow SB hSBw))).trans q2, (World.cell?_of_block (w := w6) (a := ⟨CB, 0, none⟩) (hG7.block CB (by omega) (hrow CB hCBw))).trans q3⟩
            have HBr7 : Hid (Br w7 B s (A + 1 + Rg.need S (byteAt s A))) := (hG7.block B (by omega) (hrow B hBw)).trans HW6.out.2.2.1
            have HO7 : Hid (Only2 B LB w w7) := (HO.out.trans (HW6.out.2.2.2.two LB)).grown hG7 (fun k e => (World.ownsRow.lt (show World.ownsRow _ _ _ _ _ _ _ from hown) k e).1)
            have HOw7 : Hid (OwnI w7 w.heap.size (.slice y (n0 + Rg.cnt (byteAt s A)) cy) (n0 + Rg.cnt (byteAt s A)) (l ++ Rg.nums s S A)) := hO7
            have HT : Hid (Rg.Reach s S A0 N (l ++ Rg.nums s S A) (A + 1 + Rg.need S (byteAt s A)) (n - Rg.cnt (byteAt s A)) ∧ A + 1 + Rg.need S (byteAt s A) ≤ s.size) := ⟨HR.out.step hn0 HW6.out.1, HW6.out.1.2.2⟩
            have hcp := Rg.cnt_pos (byteAt s A)
            generalize Rg.cnt (byteAt s A) = m at *
            generalize Rg.need S (byteAt s A) = nd at *
            generalize Rg.nums s S A = xs at *
            clear hown hO7 hG7 hrow HW6 HV_w6 HOw
            refine hK.out _ _ HS_w7.out (fun _ => ?_)
            clear hK K
            try simp only [Act.put, List.setIfInBounds_toArray, List.set_cons_zero, List.set_cons_succ]
            refine wpAnyH_ready (rs := [9]) (by kernel_rfl) (by simp) ?_
            refine AllReadyH.cons rfl (fun K hK => ?_) AllReadyH.nil
            have hbc := hb7.cell
            have hbf := hb7.frozen
            go_simp
            refine hK.out _ _ ⟨(World.cell?_setCell_other _ _ _ _ (fun e => by have := congrArg Addr.block e; exact d2 this.symm)).trans HS_w7.out.1, (World.cell?_setCell_other _ _ _ _ (fun e => by have := congrArg Addr.block e; exact d3 this.symm)).trans HS_w7.out.2.1, (World.cell?_setCell_other _ _ _ _ (fun e => by have := congrArg Addr.block e; exact d1 this.symm)).trans HS_w7.out.2.2⟩ (fun _ => ?_)
            clear hK K
            try simp only [Act.put, List.setIfInBounds_toArray, List.set_cons_zero, List.set_cons_succ]
            refine wpAnyH_done (by kernel_rfl) ?_ _
            have HF : Hid (Boxed (w7.setCell ⟨LB, 0, none⟩ (.slice y (n0 + m) cy)) LB 30 (.slice y (n0 + m) cy) ∧ OwnI (w7.setCell ⟨LB, 0, none⟩ (.slice y (n0 + m) cy)) w.heap.size (.slice y (n0 + m) cy) (n0 + m) (l ++ xs) ∧ Br (w7.setCell ⟨LB, 0, none⟩ (.slice y (n0 + m) cy)) B s (A + 1 + nd) ∧ Only2 B LB w (w7.setCell ⟨LB, 0, none⟩ (.slice y (n0 + m) cy))) :=
              ⟨hb7.set _, ownsRow_setCell_below (show World.ownsRow _ _ _ _ _ _ _ from HOw7.out) (a := ⟨LB, 0, none⟩) hLBw _, (Below.heap_setCell w7 ⟨LB, 0, none⟩ _ B d4).trans HBr7.out, HO7.out.set _⟩
            clear HS_w7 hb7 HBr7 HO7 HOw7 hbc hbf
            go_wp2_with fail
            go_roundw
            case rel =>
              refine ⟨l ++ xs, n - m, A + 1 + nd, _, HT.out.1, HF.out.1, ?_, HF.out.2.2.1, HT.out.2, HF.out.2.2.2⟩
              have := HF.out.2.1.len
              rw [this]; exact HF.out.2.1
            case measure =>
              have hnew := HF.out.1.cell
              rw [hnew, hvold]
              simp only [sliceLen]
              omega
          · have HFN : Hid (Only2 B LB w w6 ∧ Rg.get s S A0 N = none) := ⟨HO.out.trans (((Only.refl B wr).drewN 1 |>.trans ho6).two LB), HR.out.stuck hn0 hnt⟩
            clear ho6 hnt
            unfold fault
            go_wp2_with fail
            exact ⟨rfl, HFN.out.1, .inr ⟨c, rfl, hc0, HFN.out.2⟩⟩
    · have hli : ¬ (n0 : Int) < (N : Int) := by omega
      obtain rfl : n = 0 := by omega
      obtain rfl : n0 = N := by omega
      have HFN : Hid (WkOut w B LB s S A0 n0 (.returned (.tuple #[])) wr) := ⟨HO.out, .inl ⟨⟨_, rfl⟩, l, A, _, HR.out.done, HV.out, HOw.out, HBr.out⟩⟩
      clear HO HR HV HOw HBr HSr
      go_wp2_with fail
      go_end0
      exact HFN.out
end Go.Proofs.Ytmcjdilmmabiaaa
