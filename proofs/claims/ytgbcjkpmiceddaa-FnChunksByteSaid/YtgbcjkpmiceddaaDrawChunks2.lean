/- Pieces and a text of pieces, drawn of a code; two lists of pieces held against each other. -/
import Derived.Test.YtgbcjkpmiceddaaDrawChunks
import Derived.Laws.StructEq
namespace Go.Proofs.Ytgbcjkpmiceddaa
open Go.RowKit

/-- a list of pieces was drawn -/
def PutDrawn (w : World) (e : Ending) (w' : World) : Prop :=
  ∃ (l : List (ByteArray × ByteArray)) (ao : Option Addr) (cap : Nat), e = .returned (.slice ao l.length cap) ∧ l.length ≤ 4 ∧ (∀ p ∈ l, p.1.size ≤ 10 ∧ p.2.size ≤ 9001) ∧ Chs2 w' ao l ∧ Below w.heap.size w w'
theorem putDrawn_mk {w w1 w' : World} {q : Nat} {l : List (ByteArray × ByteArray)} {ao : Option Addr} {cap : Nat} (hl : l.length ≤ 4) (hb : Below w.heap.size w w1) (h : Gch w1 w.heap.size q (.slice ao l.length cap) l w') : PutDrawn w (.returned (.slice ao l.length cap)) w' := by
  obtain ⟨a1, a2, a3, a4⟩ := h
  obtain ⟨ao', c', e, hc⟩ := a1.chs
  cases e
  exact ⟨l, ao, cap, rfl, hl, a4, hc, hb.trans a3.below⟩

set_option maxHeartbeats 2000000 in
set_option maxRecDepth 20000 in
theorem drawChunksPut_any (a : Option Addr) (len cap : Nat) (w : World) (h : Code8 w a len cap) :
    Calls Try.prog 10 #[.slice a len cap] w (PutDrawn w) := by
  have HOP : Hid (Calls Try.prog 13 #[.slice a len cap] w fun e w' => e = .returned (.pointer (some ⟨w.heap.size, 0, none⟩)) ∧ RdAt w' w.heap.size 0 ∧ Below w.heap.size w w') := open_any a len cap w h
  clear h
  go_enter Try.func10, Try.ntmps10
  go_wp2_with fail
  refine HOP.out.mono ?_
  rintro e w1 ⟨rfl, hR1, b1⟩
  clear HOP
  have HB1 : Hid (Below w.heap.size w w1) := b1
  have HCH : Hid (Calls Try.prog 14 #[.pointer (some ⟨w.heap.size, 0, none⟩)] w1 (ChsDrawn w1 w.heap.size 0)) := l14Chunks_any w.heap.size 0 w1 hR1 (by omega)
  have hBw : w.heap.size < w1.heap.size := hR1.lt
  obtain ⟨B, hB⟩ : ∃ B, B = w.heap.size := ⟨_, rfl⟩
  rw [← hB] at HCH hBw ⊢
  have HBB : Hid (B = w.heap.size) := hB
  clear hR1 b1 hB
  go_wp2_with fail
  refine HCH.out.mono ?_
  rintro e w2 ⟨l, ao, cp, q, rfl, hl, hq, hG⟩
  have HG : Hid (Gch w1 B q (.slice ao l.length cp) l w2) := hG
  clear HCH hG
  by_cases h0 : 0 < l.length
  · have h0i : (0 : Int) < (l.length : Int) := by omega
    have d0 : decide ((l.length : Int) > 0) = true := decide_eq_true h0i
    have HPK : Hid (Calls Try.prog 15 #[.pointer (some ⟨B, 0, none⟩), .int .i64 10] w2 fun e w' => ∃ v : Nat, e = .returned (.int .i64 (v : Int)) ∧ (v : Int) < 10 ∧ Gch w1 B (q + 1) (.slice ao l.length cp) l w') := by
      refine (pick_named B q 10 w2 HG.out.2.1 (by omega) (by omega) (by omega)).mono ?_
      rintro e w' ⟨v, h1, h2, h3, h4, -⟩
      exact ⟨v, h1, h2, HG.out.next h4 h3 hBw⟩
    clear HG
    go_wp2_with fail
    refine HPK.out.mono ?_
    rintro e w3 ⟨x, rfl, hx, hG3⟩
    have HG3 : Hid (Gch w1 B (q + 1) (.slice ao l.length cp) l w3) := hG3
    clear HPK hG3
    by_cases hx0 : x = 0
    · subst hx0
      obtain ⟨p, l', hpl⟩ : ∃ p l', l = p :: l' := by
        cases l with
        | nil => simp at h0
        | cons p l' => exact ⟨p, l', rfl⟩
      have HPL : Hid (l = p :: l') := hpl
      clear hpl
      have HOF : Hid (Calls Try.prog 27 #[.pointer (some ⟨B, 0, none⟩), .slice (some ⟨w3.heap.size, 0, none⟩) 4 4] (w3.alloc (.cells #[.string ⟨#[]⟩, .string ⟨#[97, 98, 99]⟩, .string ⟨#[97, 98, 49, 100]⟩, .string ⟨#[97, 98, 99, 100, 101]⟩] 9)) fun e w' => (∃ t : ByteArray, e = .returned (.string t) ∧ t.size ≤ 10) ∧ Gch w1 B (q + 2) (.slice ao l.length cp) l w') := by
        refine (of_new B (q + 1) ⟨#[]⟩ ⟨#[97, 98, 99]⟩ ⟨#[97, 98, 49, 100]⟩ ⟨#[97, 98, 99, 100, 101]⟩ w3 HG3.out.2.1 (by omega) (by decide) (by decide) (by decide) (by decide)).mono ?_
        rintro e w' ⟨h1, h2, h3⟩
        exact ⟨h1, HG3.out.next h3 h2 hBw⟩
      clear HG3
      go_wp2_with fail
      refine HOF.out.mono ?_
      rintro e w4 ⟨⟨t, rfl, ht⟩, hG4⟩
      obtain ⟨g, c4, z4, hao, hg4⟩ : ∃ g, w4.cell? ⟨g, 0, none⟩ = some (.string p.1) ∧ w4.frozen? ⟨g, 0, none⟩ = false ∧ ao = some ⟨g, 0, none⟩ ∧ w1.heap.size ≤ g := by
        rcases hG4.1.2 with ⟨_, h2⟩ | ⟨g, cap', cur, e, hg, _⟩
        · omega
        · cases e
          have hx := chCells_get l 0 h0
          have e1 := (World.ownsRow.cellAt (show World.ownsRow _ _ _ _ _ _ _ from hG4.1) 0 (by omega)).trans hx.1
          refine ⟨g, ?_, World.ownsRow.frozenAt (show World.ownsRow _ _ _ _ _ _ _ from hG4.1) 0, rfl, hg⟩
          rw [e1]
          have hpl := HPL.out
          subst hpl
          rfl
      have HF : Hid (PutDrawn w (.returned (.slice ao l.length cp)) (w4.setCell ⟨g, 0, none⟩ (.string t))) := by
        obtain ⟨a1, a2, a3, a4⟩ := hG4
        have hpl : l = p :: l' := HPL.out
        have h1 := (World.ownsRow.stored (show World.ownsRow _ _ _ _ _ _ _ from (hao ▸ a1)) 0 (.string t)).1
        have e2 : (chCells l).set 0 (.string t) = chCells ((t, p.2) :: l') := by rw [hpl]; rfl
        rw [e2] at h1
        have h2 : OwnC (w4.setCell ⟨g, 0, none⟩ (.string t)) w1.heap.size (.slice (some ⟨g, 0, none⟩) l.length cp) l.length ((t, p.2) :: l') := h1
        obtain ⟨ao', c', e, hc⟩ := h2.chs
        cases e
        have hll : ((t, p.2) :: l').length = l.length := by rw [hpl]; rfl
        refine ⟨(t, p.2) :: l', ao, cp, by rw [hll], by rw [hll]; exact hl, ?_, by rw [hao]; exact hc, ?_⟩
        · intro r hr
          rw [List.mem_cons] at hr
          rcases hr with rfl | hr
          · exact ⟨ht, (a4 p (by rw [hpl]; exact List.mem_cons_self)).2⟩
          · exact a4 r (by rw [hpl]; exact List.mem_cons_of_mem _ hr)
        · have hb := HB1.out.trans (by rw [← HBB.out]; exact a3.below)
          exact hb.setCell (p := ⟨g, 0, none⟩) (Nat.le_trans HB1.out.size hg4) _
      subst hao
      clear hG4 HOF HPL
      go_wp2_with fail
      go_ret
      exact HF.out
    · have hxb : ((x : Int) == 0) = false := by rw [beq_eq_false_iff_ne]; omega
      have HF : Hid (PutDrawn w (.returned (.slice ao l.length cp)) w3) := putDrawn_mk hl HB1.out (by rw [← HBB.out]; exact HG3.out)
      clear HG3
      go_wp2_with fail
      go_ret
      exact HF.out
  · have h0i : ¬ (0 : Int) < (l.length : Int) := by omega
    have d0 : decide ((l.length : Int) > 0) = false := decide_eq_false h0i
    have HF : Hid (PutDrawn w (.returned (.slice ao l.length cp)) w2) := putDrawn_mk hl HB1.out (by rw [← HBB.out]; exact HG.out)
    clear HG
    go_wp2_with fail
    go_ret
    exact HF.out

theorem chAns_size (l : List (ByteArray × ByteArray)) : (⟨(Ch.ans l).toArray⟩ : ByteArray).size ≤ 9000 := by
  have aux : ∀ (l : List (ByteArray × ByteArray)) (n : Nat), n ≤ 9000 → Ch.ok n l = true → n + (l.flatMap Ch.piece).length ≤ 9000 := by
    intro l
    induction l with
    | nil => intro n h _; simpa using h
    | cons p l ih =>
      intro n h ho
      have ho' : (Ch.name p.1 && (decide (n + 12 + p.2.size ≤ 9000) && Ch.ok (n + 12 + p.2.size) l)) = true := ho
      simp only [Bool.and_eq_true, decide_eq_true_eq] at ho'
      obtain ⟨hn, hz, hr⟩ := ho'
      have := ih _ hz hr
      rw [List.flatMap_cons, List.length_append, Ch.piece_len (Ch.name_size hn)]
      omega
  have hs : (⟨(Ch.ans l).toArray⟩ : ByteArray).size = (Ch.ans l).length := by simp [ByteArray.size]
  rw [hs]
  unfold Ch.ans
  split
  · next h =>
    have := aux l 8 (by omega) h
    unfold Ch.out
    rw [List.length_append]
    exact this
  · simp

/-- a text was drawn -/
def TxDrawn (w : World) (e : Ending) (w' : World) : Prop := (∃ t : ByteArray, e = .returned (.string t) ∧ t.size ≤ 9000) ∧ Below w.heap.size w w'

set_option maxHeartbeats 2000000 in
set_option maxRecDepth 20000 in
theorem drawChunksGet_any (a : Option Addr) (len cap : Nat) (w : World) (h : Code8 w a len cap) :
    Calls Try.prog 5 #[.slice a len cap] w (TxDrawn w) := by
  have HOP : Hid (Calls Try.prog 13 #[.slice a len cap] w fun e w' => e = .returned (.pointer (some ⟨w.heap.size, 0, none⟩)) ∧ RdAt w' w.heap.size 0 ∧ Below w.heap.size w w') := open_any a len cap w h
  clear h
  go_enter Try.func5, Try.ntmps5
  go_wp2_with fail
  refine HOP.out.mono ?_
  rintro e w1 ⟨rfl, hR1, b1⟩
  clear HOP
  have HB1 : Hid (Below w.heap.size w w1) := b1
  have HCH : Hid (Calls Try.prog 14 #[.pointer (some ⟨w.heap.size, 0, none⟩)] w1 (ChsDrawn w1 w.heap.size 0)) := l14Chunks_any w.heap.size 0 w1 hR1 (by omega)
  have hBw : w.heap.size < w1.heap.size := hR1.lt
  obtain ⟨B, hB⟩ : ∃ B, B = w.heap.size := ⟨_, rfl⟩
  rw [← hB] at HCH hBw HB1 ⊢
  have HBB : Hid (B = w.heap.size) := hB
  clear hR1 b1 hB
  go_wp2_with fail
  refine HCH.out.mono ?_
  rintro e w2 ⟨l, ao, cp, q, rfl, hl, hq, hG⟩
  obtain ⟨T, hT⟩ : ∃ T, T = (⟨(Ch.ans l).toArray⟩ : ByteArray) := ⟨_, rfl⟩
  have hTz : T.size ≤ 9000 := by rw [hT]; exact chAns_size l
  have HPT : Hid (Calls Try.prog 11 #[.slice ao l.length cp] w2 fun e w' => e = .returned (.string T) ∧ RdAt w' B q ∧ Below B w w') := by
    obtain ⟨a1, a2, a3, a4⟩ := hG
    obtain ⟨ao', c', e, hc⟩ := a1.chs
    cases e
    refine (spec_chunksPut ao l.length cp l w2 hc rfl (by omega) (fun p hp => by have := a4 p hp; omega)).mono ?_
    rintro e w' ⟨rfl, hb⟩
    exact ⟨by rw [hT], a2.kept (hb.mono a2.lt), (HB1.out.trans a3.below).trans (hb.mono (Nat.le_of_lt a2.lt))⟩
  clear HCH hG hT
  go_wp2_with fail
  refine HPT.out.mono ?_
  rintro e w3 ⟨rfl, hR3, hb3⟩
  have HR3 : Hid (RdAt w3 B q) := hR3
  have HB3 : Hid (Below B w w3) := hb3
  clear hR3 hb3 HPT
  go_wp2_with fail
  refine (pick_named B q _ _ HR3.out (by omega) (by omega) (by omega)).mono ?_
  rintro e w4 ⟨x, rfl, hx, hR4, hO4, -⟩
  have HR4 : Hid (RdAt w4 B (q + 1)) := hR4
  have HB4 : Hid (Below B w w4) := HB3.out.trans hO4.below
  clear hR4 hO4 HR3 HB3
  by_cases hx0 : x = 0
  · subst hx0
    have HBN : Hid (Calls Try.prog 16 #[.pointer (some ⟨B, 0, none⟩), .string T] w4 fun e w' => (∃ t : ByteArray, e = .returned (.string t) ∧ t.size = T.size) ∧ (∃ q2, q2 ≤ q + 1 + 2 ∧ RdAt w' B q2) ∧ Only B w4 w') := l14Bend_any B (q + 1) T w4 HR4.out (by omega) (by omega)
    go_wp2_with fail
    refine HBN.out.mono ?_
    rintro e w5 ⟨⟨t, rfl, ht⟩, -, hO5⟩
    have HF : Hid (TxDrawn w (.returned (.string t)) w5) := ⟨⟨t, rfl, by omega⟩, by rw [← HBB.out]; exact HB4.out.trans hO5.below⟩
    clear ht hO5 HBN
    go_wp2_with fail
    go_ret
    exact HF.out
  · have g0 : ((x : Int) == 0) = false := by rw [beq_eq_false_iff_ne]; omega
    by_cases hx1 : x = 1
    · subst hx1
      obtain ⟨L, hL⟩ : ∃ L : Nat, L = T.size + 1 := ⟨_, rfl⟩
      have eL : (T.size : Int) + 1 = (L : Int) := by omega
      have HLL : Hid (L = T.size + 1) := hL
      have hL1 : 1 ≤ L ∧ L ≤ 9001 := by omega
      clear hL
      go_wp2_with fail
      refine (pick_named B (q + 1) _ _ HR4.out (by omega) (by omega) (by omega)).mono ?_
      rintro e w5 ⟨k, rfl, hk, hR5, hO5, -⟩
      have hkT : (k : Int) ≤ (T.size : Int) := by have := HLL.out; omega
      have hkn : k ≤ T.size := by omega
      obtain ⟨t, ht⟩ : ∃ t, t = T.extract 0 k := ⟨_, rfl⟩
      have htb : t.size ≤ 9000 := by rw [ht, ByteArray.size_extract]; omega
      have et : T.extract 0 k = t := ht.symm
      have HF : Hid (TxDrawn w (.returned (.string t)) w5) := ⟨⟨t, rfl, htb⟩, by rw [← HBB.out]; exact HB4.out.trans hO5.below⟩
      clear hR5 hO5 HR4 HB4 HLL hk ht
      go_wp2_with fail
      go_ret
      exact HF.out
    · have g1 : ((x : Int) == 1) = false := by rw [beq_eq_false_iff_ne]; omega
      have HF : Hid (TxDrawn w (.returned (.string T)) w4) := ⟨⟨T, rfl, hTz⟩, by rw [← HBB.out]; exact HB4.out⟩
      go_wp2_with fail
      go_ret
      exact HF.out

set_option maxHeartbeats 2000000 in
set_option maxRecDepth 40000 in
theorem wiChunks_same (a : Option Addr) (cap : Nat) (b : Option Addr) (cap' n : Nat) (l : List (ByteArray × ByteArray)) (w : World) (h : Chs2 w a l) (g : Chs2 w b l) (hn : l.length = n) (hl : n ≤ 100000) :
    Calls Try.prog 8 #[.slice a n cap, .slice b n cap'] w fun e w' => e = .returned (.bool true) ∧ ∃ m, w' = w.drewN m := by
  have HI : Hid (Chs2 w a l) := h
  have HG : Hid (Chs2 w b l) := g
  have t1 := Try.underlying46
  have t4 := Try.underlying9
  have t2 : Try.prog.stoodInHeld 46 = false := by kernel_rfl
  have t3 : Try.prog.eqGuardType Try.prog.depth 46 = false := by kernel_rfl
  have hzg : n ≤ l.length := by omega
  clear h g hn
  go_enter Try.func8, Try.ntmps8
  go_wp2_with fail
  go_loopw [5] (fun i wr => ∃ k m : Nat, k ≤ n ∧ i = .int .i64 k ∧ wr = w.drewN m) (fun i _ => n - (intOf i).toNat)
  case atStart => exact ⟨0, 0, Nat.zero_le _, rfl, rfl⟩
  case round =>
    obtain ⟨k, m, hk, rfl, hwr⟩ := hrel
    have HWR : Hid (wr = w.drewN m) := hwr
    by_cases hlt : k < n
    · have hkl : k < l.length := by omega
      obtain ⟨b1, off1, rfl, hb1, c0, c1⟩ := HI.out.at hkl
      obtain ⟨b2, off2, rfl, hb2, d0, d1⟩ := HG.out.at hkl
      have cc : ∀ a, wr.cell? a = w.cell? a := fun a => by rw [hwr]; rfl
      rw [← cc] at c0 c1 d0 d1
      have hki : (k : Int) < (n : Int) := by omega
      clear HI HG hwr cc
      generalize (l[k]).1 = x at *
      generalize (l[k]).2 = y at *
      go_wp2_with fail
      go_quiet (fail)
      go_wp2_with fail
      go_roundw
      case rel => exact ⟨k + 1, m + nq, by omega, by go_num, by rw [HWR.out, World.drewN_drewN]⟩
      case measure => simp [intOf]; omega
    · clear hwr
      go_wp2_with fail
      go_ret
      exact ⟨rfl, m, HWR.out⟩
end Go.Proofs.Ytgbcjkpmiceddaa
